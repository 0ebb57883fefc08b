package code

import (
	"slices"
	"testing"

	"mend/api"
)

func TestSteps(t *testing.T) {
	b := [api.Locks]bool{1: true}
	be := [api.Locks]bool{1: true, 4: true}
	want := []Step{
		{Kind: Get, At: 0, Thread: 1, Number: 2, Next: 1},
		{Kind: End, At: 2, Thread: 1, Next: 2},
		{Kind: Take, At: 3, Thread: 2, Number: 1, Next: 3},
		{Kind: Test, At: 5, Thread: 2, Next: 4, Else: 7, Held: b},
		{Kind: Add, At: 7, Thread: 2, Number: 1, Next: 5, Held: b},
		{Kind: Put, At: 9, Thread: 2, Number: 0, Next: 6, Held: b},
		{Kind: Jump, At: 11, Thread: 2, Next: 10, Held: b},
		{Kind: Take, At: 13, Thread: 2, Number: 4, Mended: true, Next: 8, Held: b},
		{Kind: Get, At: 15, Thread: 2, Number: 1, Next: 9, Held: be},
		{Kind: Give, At: 17, Thread: 2, Number: 4, Mended: true, Next: 10, Held: b},
		{Kind: Give, At: 19, Thread: 2, Number: 1, Next: 11},
		{Kind: Take, At: 20, Thread: 2, Number: 1, Next: 12},
		{Kind: Give, At: 22, Thread: 2, Number: 1, Next: 13},
		{Kind: End, At: 23, Thread: 2, Next: 14},
	}
	steps, e, at := Read("gz|[B?{ipx}{<Egy>}][B]")
	if e != api.ErrForm || at != 8 || len(steps) != 0 {
		t.Errorf("a text that is no program: %+v, %d, %d", steps, e, at)
	}
	steps, e, at = Read("gz|[B?{i1px}{<Egy>}][B]")
	if e != api.OK || at != 0 || !slices.Equal(steps, want) {
		t.Errorf("steps are %+v, %d, %d", steps, e, at)
	}
}

// Where bodies lead, at loops and empty bodies inside each other.
func TestBodies(t *testing.T) {
	want := []Step{
		{Kind: Test, At: 0, Thread: 1, Next: 1, Else: 8},
		{Kind: Print, At: 2, Thread: 1, Next: 2},
		{Kind: Test, At: 3, Thread: 1, Next: 3, Else: 4},
		{Kind: Jump, At: 5, Thread: 1, Next: 6},
		{Kind: Test, At: 7, Thread: 1, Next: 5, Else: 6},
		{Kind: Jump, At: 9, Thread: 1, Next: 4},
		{Kind: Print, At: 11, Thread: 1, Next: 7},
		{Kind: Jump, At: 12, Thread: 1, Next: 0},
		{Kind: End, At: 13, Thread: 1, Next: 9},
	}
	steps, e, at := Read("!{o?{}{!{}}o}")
	if e != api.OK || at != 0 || !slices.Equal(steps, want) {
		t.Errorf("steps are %+v, %d, %d", steps, e, at)
	}
}

func TestEveryThreadHasAnEnd(t *testing.T) {
	steps, e, _ := Read("|||")
	if e != api.OK || len(steps) != api.MaxThreads {
		t.Fatalf("steps are %+v, %d", steps, e)
	}
	for i, s := range steps {
		if s.Kind != End || s.Thread != i+1 || s.At != i {
			t.Errorf("step %d is %+v", i, s)
		}
	}
}

func TestNoStepsOfAWrongNest(t *testing.T) {
	steps, e, at := Read("gx[A!{<Agx>}]")
	if e != api.ErrNest || at != 6 || len(steps) != 0 {
		t.Errorf("steps are %+v, %d, %d", steps, e, at)
	}
}

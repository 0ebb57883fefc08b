package code

import (
	"slices"
	"testing"

	"mend/api"
)

func TestMarks(t *testing.T) {
	b := [api.Locks]bool{1: true}
	be := [api.Locks]bool{1: true, 4: true}
	want := []Mark{
		{Kind: Get, At: 0, Thread: 1, Number: 2},
		{Kind: Take, At: 3, Thread: 2, Number: 1},
		{Kind: Put, At: 9, Thread: 2, Number: 0, Held: b},
		{Kind: Take, At: 13, Thread: 2, Number: 4, Held: b},
		{Kind: Get, At: 15, Thread: 2, Number: 1, Held: be},
		{Kind: Take, At: 20, Thread: 2, Number: 1},
	}
	marks, e, at := Read("gz|[B?{ipx}{<Egy>}][B]")
	if e != api.ErrForm || at != 8 || len(marks) != 0 {
		t.Errorf("a text that is no program: %+v, %d, %d", marks, e, at)
	}
	marks, e, at = Read("gz|[B?{i1px}{<Egy>}][B]")
	if e != api.OK || at != 0 || !slices.Equal(marks, want) {
		t.Errorf("marks are %+v, %d, %d", marks, e, at)
	}
}

func TestNoMarksOfAWrongNest(t *testing.T) {
	marks, e, at := Read("gx[A!{<Agx>}]")
	if e != api.ErrNest || at != 6 || len(marks) != 0 {
		t.Errorf("marks are %+v, %d, %d", marks, e, at)
	}
}

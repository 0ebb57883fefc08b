package locks

import (
	"slices"
	"testing"

	"mend/api"
	"mend/code"
)

// Numbers count accesses alone, whatever steps stand between them.
func TestOpen(t *testing.T) {
	steps, e, _ := code.Read("o[Apxi1gy]!{}|?{gx}{<Apx>}|[B[Cpypx]]")
	want := []int{0, 2, 0, 5, 1, 4, 2, 5, 3, 5}
	if got := Open(steps); e != api.OK || !slices.Equal(got, want) {
		t.Errorf("open are %v, %d, want %v", got, e, want)
	}
	if got := Open(nil); len(got) != 0 {
		t.Errorf("open among no steps are %v", got)
	}
}

func TestOrderOf(t *testing.T) {
	steps, e, _ := code.Read("[C?{[Agx]}{<Egx>}]gx|[A[B!{[D]}]]")
	var want Order
	want[2][0], want[2][4] = true, true
	want[0][1], want[0][3], want[1][3] = true, true, true
	got := OrderOf(steps)
	if e != api.OK || got != want {
		t.Errorf("the order is %v, %d, want %v", got, e, want)
	}
	if names := got.Names(); names != "ABADBDCACE" {
		t.Errorf("its edges are %q", names)
	}
}

func TestNoEdges(t *testing.T) {
	if o := OrderOf(nil); o != (Order{}) || o.Names() != "" {
		t.Errorf("the order of no steps is %v", o)
	}
	held := [api.Locks]bool{true, true, true, true, true}
	for _, lock := range []int{-1, api.Locks} {
		steps := []code.Step{{Kind: code.Take, Number: lock, Held: held}}
		if o := OrderOf(steps); o != (Order{}) {
			t.Errorf("lock %d, which is none, has the order %v", lock, o)
		}
	}
}

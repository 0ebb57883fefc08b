package locks

import (
	"slices"
	"testing"

	"mend/api"
	"mend/code"
)

// Numbers count accesses alone, whatever steps stand between them.
func TestOpen(t *testing.T) {
	steps, e, _ := code.Read("o[Apxi1gy]!{}|?{gx}{<Apx>}|[B[Cpypx]]")
	want := []int{0, 2, 0, 5, 1, 4, 2, 5, 3, 5}
	if got := Open(steps); e != api.OK || !slices.Equal(got, want) {
		t.Errorf("open are %v, %d, want %v", got, e, want)
	}
	if got := Open(nil); len(got) != 0 {
		t.Errorf("open among no steps are %v", got)
	}
}

func TestOrderOf(t *testing.T) {
	steps, e, _ := code.Read("[C?{[Agx]}{<Egx>}]gx|[A[B!{[D]}]]")
	var want Order
	want[2][0], want[2][4] = true, true
	want[0][1], want[0][3], want[1][3] = true, true, true
	got := OrderOf(steps)
	if e != api.OK || got != want {
		t.Errorf("the order is %v, %d, want %v", got, e, want)
	}
	if names := got.Names(); names != "ABADBDCACE" {
		t.Errorf("its edges are %q", names)
	}
}

func TestNoEdges(t *testing.T) {
	if o := OrderOf(nil); o != (Order{}) || o.Names() != "" {
		t.Errorf("the order of no steps is %v", o)
	}
	held := [api.Locks]bool{true, true, true, true, true}
	for _, lock := range []int{-1, api.Locks} {
		steps := []code.Step{{Kind: code.Take, Number: lock, Held: held}}
		if o := OrderOf(steps); o != (Order{}) {
			t.Errorf("lock %d, which is none, has the order %v", lock, o)
		}
	}
}

func TestAdd(t *testing.T) {
	var o Order
	o.Add([api.Locks]bool{1: true, 3: true}, 4)
	o.Add([api.Locks]bool{4: true}, 0)
	o.Add([api.Locks]bool{}, 2)
	o.Add([api.Locks]bool{true, true, true, true, true}, -1)
	o.Add([api.Locks]bool{true, true, true, true, true}, api.Locks)
	if names := o.Names(); names != "BEDEEA" {
		t.Errorf("the edges are %q", names)
	}
}

func TestWays(t *testing.T) {
	for _, c := range []struct{ edges, ways string }{
		{"", ""}, {"AB", "AB"}, {"ABBC", "ABACBC"}, {"ABCD", "ABCD"}, {"BAAB", "AAABBABB"}, {"ACBC", "ACBC"},
		{"EDDCCBBA", "BACACBDADBDCEAEBECED"}, {"CEEADCAB", "ABCACBCEDADBDCDEEAEB"}, {"ABBCCADE", "AAABACBABBBCCACBCCDE"},
	} {
		var o Order
		for i := 0; i < len(c.edges); i += 2 {
			o[c.edges[i]-'A'][c.edges[i+1]-'A'] = true
		}
		before := o
		if ways := o.Ways(); ways.Names() != c.ways || o != before {
			t.Errorf("edges %q have the ways %q, want %q", c.edges, ways.Names(), c.ways)
		}
	}
}

func TestLeads(t *testing.T) {
	var o Order
	o[1][0], o[1][3] = true, true
	for _, c := range []struct {
		lock int
		set  [api.Locks]bool
		want bool
	}{
		{1, [api.Locks]bool{0: true}, true}, {1, [api.Locks]bool{2: true, 3: true}, true}, {1, [api.Locks]bool{1: true, 2: true, 4: true}, false}, {1, [api.Locks]bool{}, false},
		{0, [api.Locks]bool{1: true, 3: true}, false}, {-1, [api.Locks]bool{0: true}, false}, {api.Locks, [api.Locks]bool{0: true}, false},
	} {
		if got := o.Leads(c.lock, c.set); got != c.want {
			t.Errorf("from %d to %v: %v", c.lock, c.set, got)
		}
	}
}

package repair

import (
	"slices"
	"testing"

	"mend/api"
	"mend/code"
)

func read(t *testing.T, program string) []code.Step {
	t.Helper()
	steps, e, at := code.Read(program)
	if e != api.OK {
		t.Fatalf("%q is no program: %d at %d", program, e, at)
	}
	return steps
}

func TestFewest(t *testing.T) {
	for _, c := range []struct {
		program string
		want    []Region
	}{
		{"", nil}, {"px", nil}, {"[Apx]|[Apx]", nil},
		{"o[Dpx]|i1gx", []Region{{At: 9, Lock: 3}}},
		{"gygx|[Cpx]gx|gxpz", []Region{{At: 2, Lock: 2}, {At: 13, Lock: 2}}},
		{"[A[B]]|?{[Apx]}{}|[Bpx]", []Region{{At: 11, Lock: 1}}},
	} {
		steps := read(t, c.program)
		before := slices.Clone(steps)
		if got := Fewest(steps); !slices.Equal(got, c.want) {
			t.Errorf("Fewest(%q) = %v, want %v", c.program, got, c.want)
		}
		if !slices.Equal(steps, before) {
			t.Errorf("Fewest(%q) changes the steps", c.program)
		}
	}
	if got := Fewest(nil); len(got) != 0 {
		t.Errorf("Fewest of no steps = %v", got)
	}
}

// A search that finds nothing leaves all as it was.
func TestNothingIsLeftBehind(t *testing.T) {
	s := begun(read(t, "[Apxpypy]|[Bpxpxpy]"))
	for count := range 3 {
		if s.closes(count) || slices.ContainsFunc(s.spots, func(one spot) bool { return one.lock != bare || one.settled }) {
			t.Fatalf("%d regions: %+v", count, s.spots)
		}
	}
	if !s.closes(3) || len(s.regions()) != 3 {
		t.Errorf("3 regions: %+v", s.spots)
	}
	s = begun(read(t, "px|gx"))
	if s.closesWith(0, 0, 1) || s.spots[0].lock != bare || s.spots[0].settled {
		t.Errorf("1 region: %+v", s.spots)
	}
}

// Each case lays locks at the spots of a program: a letter for each, or none.
func TestFair(t *testing.T) {
	for _, c := range []struct {
		program, laid string
		want          bool
	}{
		{"px|gx", "--", true}, {"px|gx", "EA", true}, {"[Apx]|gx", "-A", true},
		{"[Apx]|gx", "A-", false}, {"gx|[B[Apx]]", "-B", false},
		{"[Apx]|[Bgx]", "B-", true}, {"[Apx]|[Bgx]", "-A", true}, {"[Apx]|[Bgx]", "BA", false}, {"[Apx]|[Bgx]", "EE", true}, {"[Apx]|[Bgx]", "CC", true},
		{"[A[Bpx]]|[Bgx]", "-A", false}, {"[B[Apx]]|[Bgx]", "-A", true}, {"[A[B]]|[B[A]]", "", true}, {"[A[Bpx]]|[B[Agx]]", "CC", true},
		{"[Apx]|[Bgx]|[Cgx]", "BC-", true}, {"[Apx]|[Bgx]|[Cgx]", "BCA", false}, {"[Apx]|[Bgx]|[Cgx]", "BCE", true}, {"[Apx]|[Bgx]|[B[C[D]]]|[Dgx]", "B-A", false},
	} {
		s := begun(read(t, c.program))
		for i := range c.laid {
			if c.laid[i] != '-' {
				s.spots[i].lock = int(c.laid[i] - 'A')
			}
		}
		if s.fair() != c.want {
			t.Errorf("%q with %q laid: fair is %v", c.program, c.laid, s.fair())
		}
	}
}

// Accesses are one spot, if they differ in their places alone.
func TestSpots(t *testing.T) {
	s := begun(read(t, "px[Apx]gxpypx?{[Apx]}{}|px[B[Apx]][A[Bpx]]"))
	want := [][]int{{0, 11}, {4, 17}, {7}, {9}, {24}, {30, 38}}
	for i, one := range s.spots {
		if i >= len(want) || !slices.Equal(one.places, want[i]) {
			t.Errorf("spot %d is at %v, want %v", i, one.places, want)
		}
	}
	pairs := []pair{{0, 4}, {0, 5}, {1, 4}, {2, 4}, {2, 5}}
	if len(s.spots) != len(want) || !slices.Equal(s.pairs, pairs) {
		t.Errorf("%d spots, pairs %v, want %v", len(s.spots), s.pairs, pairs)
	}
}

// Numbers of spots that there are not do no harm.
func TestNumbersOfNoSpot(t *testing.T) {
	s := begun(read(t, "px|gx"))
	for _, number := range []int{-1, 2, 1 << 40} {
		if s.isSettled(number) || s.isOpen(pair{first: number}) || s.isOpen(pair{second: number}) || s.closesWith(number, 0, 2) {
			t.Errorf("there is no spot %d", number)
		}
	}
}

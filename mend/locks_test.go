package mend

import (
	"slices"
	"strings"
	"testing"

	"mend/api"
)

type pairsCase struct {
	program string
	want    []int
}

func testPairs(t *testing.T, cases []pairsCase) {
	t.Helper()
	for _, c := range cases {
		if l, e := Pairs(c.program); !slices.Equal(l, c.want) || e != api.OK {
			t.Errorf("P7: Pairs(%q) = %v, %d, want %v", c.program, l, e, c.want)
		}
		hold(t, c.program)
	}
}

type orderCase struct{ program, want string }

func testOrder(t *testing.T, cases []orderCase) {
	t.Helper()
	for _, c := range cases {
		if s, e := Order(c.program); s != c.want || e != api.OK {
			t.Errorf("P8: Order(%q) = %q, %d, want %q", c.program, s, e, c.want)
		}
		hold(t, c.program)
	}
}

func TestPairsAndOrderExamplesOfTheDocument(t *testing.T) {
	testPairs(t, []pairsCase{
		{"px|gx|gx", []int{0, 1, 0, 2}},
		{"[Apx]|[Agx]|gx", []int{0, 2}},
	})
	testOrder(t, []orderCase{{"[A[Bgx]<Cgy>]|[B<Dpx>]", "ABACBD"}})
}

func TestWhatConflicts(t *testing.T) {
	testPairs(t, []pairsCase{
		{"", nil}, {"|||", nil}, {"o|i1|!{}|?{}{}", nil},
		{"px", nil}, {"px|", nil}, {"pxpxgx", nil}, {"pxgx|pygy|pzgz", nil},
		{"px|px", []int{0, 1}}, {"px|gx", []int{0, 1}}, {"gx|px", []int{0, 1}}, {"gx|gx", nil}, {"gx|gx|gx|gx", nil},
		{"py|gy", []int{0, 1}}, {"pz|gz", []int{0, 1}}, {"px|gy", nil}, {"py|pz", nil}, {"px|pz", nil},
		{"px|||gx", []int{0, 1}}, {"|gx||px", []int{0, 1}}, {"|px|", nil},
		// What is never done counts as well: the text alone matters.
		{"?{px}{gx}|!{px}", []int{0, 2, 1, 2}}, {"i5i5!{!{px}}|gx", []int{0, 1}},
		{"px|!{?{}{?{gy}{gx}}}", []int{0, 2}},
	})
}

// A lock that is held at both, whatever lies between its region and the access.
func TestWhatIsOpen(t *testing.T) {
	testPairs(t, []pairsCase{
		{"[Apx]|[Agx]", nil}, {"[Bpx]|[Bgx]", nil}, {"[Cpx]|[Cgx]", nil}, {"[Dpx]|[Dgx]", nil}, {"<Epx>|<Egx>", nil},
		{"[Apx]|<Agx>", nil}, {"<Dgx>|[Dpx]", nil}, {"<Bpx>|<Bpx>", nil},
		{"[Apx]|[Bgx]", []int{0, 1}}, {"<Epx>|<Agx>", []int{0, 1}}, {"[Apx]|gx", []int{0, 1}}, {"px|<Egx>", []int{0, 1}},
		{"[A]px|[Agx]", []int{0, 1}}, {"px[A]|[Agx]", []int{0, 1}}, {"[A]px[A]|[Agx]", []int{0, 1}}, {"[Ao]|px|[Agx]", []int{0, 1}},
		{"[A[Bpx]]|[Bgx]", nil}, {"[A[Bpx]]|[Agx]", nil}, {"[A[Bpx]]|[B[Agx]]", nil}, {"[A[Bpx]]|[C[Dgx]]", []int{0, 1}},
		{"[A[B[C<Dpx>]]]|<Agx>", nil}, {"[A[B[C<Dpx>]]]|<Egx>", []int{0, 1}}, {"[A[B]px]|[Bgx]", []int{0, 1}}, {"[A<Bpy>px]|[Bgx]", []int{1, 2}},
		{"[A?{!{px}}{}]|[Agx]", nil}, {"[A!{[B?{}{<Cpx>}]}]|!{[Agx]}|?{<Bgx>}{<Cgx>}", nil},
		{"[A?{[B]}{px}]|[Bgx]", []int{0, 1}},
		// Any two need not share the same lock.
		{"[A[Bpx]]|[B[Cpx]]|[C[Apx]]", nil}, {"[A[Bpx]]|[Bpx]|[Apx]", []int{1, 2}},
		{"[A<Epx>]|[B<Epx>]|[A[Bpx]]", nil}, {"[A<Epx>]|<Bgx>|[A[Bpx]]", []int{0, 1}},
	})
}

// The numbers are those of all accesses, the lesser first, and the pairs rise by
// the first number, then by the second.
func TestTheOrderOfPairs(t *testing.T) {
	testPairs(t, []pairsCase{
		{"gx|gx|px", []int{0, 2, 1, 2}},
		{"pxpy|pxpy", []int{0, 2, 1, 3}}, {"pxpy|pypx", []int{0, 3, 1, 2}},
		{"px|px|px|px", []int{0, 1, 0, 2, 0, 3, 1, 2, 1, 3, 2, 3}},
		{"pxgx|gxpx", []int{0, 2, 0, 3, 1, 3}}, {"pzpypx|gxgygz", []int{0, 5, 1, 4, 2, 3}},
		{"gygzpx|gygzgx", []int{2, 5}}, {"[Apx]px|[Agx]", []int{1, 2}}, {"[Apxgypx]|<Agx>px|py", []int{0, 4, 1, 5, 2, 4}},
		{"?{gx}{gy}px|py|!{px}", []int{0, 4, 1, 3, 2, 4}},
		{strings.Repeat("gx", 11) + "|px", []int{0, 11, 1, 11, 2, 11, 3, 11, 4, 11, 5, 11, 6, 11, 7, 11, 8, 11, 9, 11, 10, 11}},
	})
}

func TestManyPairs(t *testing.T) {
	program := strings.Repeat("px", 59) + "||" + strings.Repeat("gx", 60)
	l, e := Pairs(program)
	if e != api.OK || len(program) != api.MaxText || len(l) != 2*59*60 {
		t.Fatalf("P7: %d numbers, %d", len(l), e)
	}
	for i := range 59 * 60 {
		if l[2*i] != i/60 || l[2*i+1] != 59+i%60 {
			t.Fatalf("P7: pair %d is %d, %d", i, l[2*i], l[2*i+1])
		}
	}
}

func TestEdges(t *testing.T) {
	testOrder(t, []orderCase{
		{"", ""}, {"|||", ""}, {"gx|o", ""}, {"[A]", ""}, {"<Egx>", ""}, {"[Agxo!{?{i1}{}}]", ""},
		{"[A][B][C][D]<Egx>", ""}, {"[A]|[B]|[C]|[D]", ""}, {"[A][B[C]]", "BC"}, {"[B[C]][A]", "BC"}, {"[A]|[B[C]]", "BC"},
		{"[A[B]]", "AB"}, {"[B[A]]", "BA"}, {"[C[D]]", "CD"}, {"[D[B]]", "DB"}, {"[A<Bgx>]", "AB"}, {"[D<Apz>]", "DA"}, {"[D<Epy>]", "DE"}, {"[C<Dgx>]", "CD"},
		// One inside another with others between, or with bodies between.
		{"[A[B[C]]]", "ABACBC"}, {"[C[B[A]]]", "BACACB"}, {"[B[A<Cgx>]]", "ACBABC"}, {"[A[B][C]]", "ABAC"}, {"[A[B[C]][D]]", "ABACADBC"},
		{"[D[C[B[A<Egx>]]]]", "AEBABECACBCEDADBDCDE"}, {"[A[B[C[D<Egx>]]]]", "ABACADAEBCBDBECDCEDE"},
		{"[A?{[B]}{}]", "AB"}, {"[A?{}{[B]}]", "AB"}, {"[A!{[B]}]", "AB"}, {"[D!{?{!{<Egx>}}{?{}{[C]}}}]", "DCDE"}, {"?{[A]}{[B]}", ""},
		{"[A[B]][C]|[D[C]]", "ABDC"}, {"[A[B]gx<Cgx>o]", "ABAC"},
	})
}

// Each edge once, wherever it stands in the text, and both of a circle; no edge
// follows from others by a way.
func TestTheOrderOfEdges(t *testing.T) {
	testOrder(t, []orderCase{
		{"[A[B]][A[B]]|[A[B]]|[A<Bgx><Bgx>]", "AB"}, {"[A[B][B]]", "AB"},
		{"[B[A]]|[A[B]]", "ABBA"}, {"[A[B]]|[B[A]]", "ABBA"}, {"[A[B]]|[B[C]]", "ABBC"}, {"[A[B]]|[B[C]]|[C[A]]", "ABBCCA"},
		{"[D<Egx>][C[A]]|[B[A]]|[A[D]]", "ADBACADE"}, {"[A<Egx>[D][C][B]]", "ABACADAE"}, {"[D[C][B][A]]", "DADBDC"},
		{"[A[B]<Cgx><Dgx><Egx>]|[B[A][C][D]<Egx>]|[C[A][B][D]<Egx>]|[D[A][B][C]<Egx>]", "ABACADAEBABCBDBECACBCDCEDADBDCDE"},
	})
}

// P2: whatever a caller writes into a list of pairs and its spare room, no other
// list shows it.
func TestPairsAreTheCallers(t *testing.T) {
	for _, program := range []string{"", "px", "px|gx", "px|gx|gx", "px|px|px|px", "px|gx]", strings.Repeat("gx", 50) + "|px"} {
		before, _ := Pairs(program)
		scribbled, _ := Pairs(program)
		room := scribbled[:cap(scribbled)]
		for i := range room {
			room[i] = -7
		}
		after, _ := Pairs(program)
		for _, list := range [][]int{before, after} {
			if slices.Contains(list[:cap(list)], -7) {
				t.Fatalf("P2: a list of Pairs(%q) shares memory with another", program)
			}
		}
		if !slices.Equal(before, after) {
			t.Errorf("P2: Pairs(%q) = %v, then %v", program, before, after)
		}
	}
}

// Made-up programs have few pairs and edges of each kind by chance; these are
// made of little else.
func TestMadeUpRegions(t *testing.T) {
	m := newMaker(4)
	pairs, edges := 0, 0
	for range 4000 {
		var threads []string
		for range 1 + m.Intn(api.MaxThreads) {
			threads = append(threads, m.regions("ABCD"))
		}
		program := strings.Join(threads, "|")
		hold(t, program)
		l, e := Pairs(program)
		if e == api.OK && len(l) > 2 {
			pairs++
		}
		if s, e := Order(program); e == api.OK && len(s) > 2 {
			edges++
		}
	}
	if pairs < 1000 || edges < 1000 {
		t.Errorf("of 4000 programs only %d have some pairs and %d some edges: too few to tell much", pairs, edges)
	}
}

// regions makes up a body of accesses inside regions of the locks that are free.
func (m maker) regions(free string) string {
	s := ""
	for range 1 + m.Intn(2) {
		access := m.one("gp") + m.one("xy")
		switch kind := m.Intn(6); {
		case kind == 0:
			s += "<" + m.one(free+"E") + access + ">"
		case kind == 1 || free == "":
			s += access
		default:
			lock := m.one(free)
			s += "[" + lock + m.regions(strings.Replace(free, lock, "", 1)) + "]"
		}
	}
	return s
}

// Where there is no open pair nothing races, and where no lock has a way to
// itself no thread is stuck, whatever is picked.
func TestRunsKeepToPairsAndOrder(t *testing.T) {
	m := newMaker(5)
	races, stuck := 0, 0
	for range 3000 {
		program := m.regions("AB") + "|" + m.regions("AB") + "|" + m.regions("AB")
		r, e := Run(program, m.picks("123", 60))
		if e != api.OK {
			continue
		}
		if l, _ := Pairs(program); r.Race > 0 && len(l) == 0 {
			t.Errorf("P7: Run(%q) races, and Pairs tells nothing", program)
		}
		if s, _ := Order(program); r.Stuck != "" && !circle(s) {
			t.Errorf("P8: Run(%q) has %q stuck, and Order tells %q", program, r.Stuck, s)
		}
		if r.Race > 0 {
			races++
		}
		if r.Stuck != "" {
			stuck++
		}
	}
	if races < 100 || stuck < 10 {
		t.Errorf("of 3000 runs only %d race and %d have threads stuck: too few to tell much", races, stuck)
	}
}

// circle tells whether some lock has a way to itself: whether edges are left, if
// those are taken out again and again that lead to where no edge goes on.
func circle(edges string) bool {
	for range edges {
		left := ""
		for i := 0; i < len(edges); i += 2 {
			for j := 0; j < len(edges); j += 2 {
				if edges[i+1] == edges[j] {
					left += edges[i : i+2]
					break
				}
			}
		}
		edges = left
	}
	return edges != ""
}

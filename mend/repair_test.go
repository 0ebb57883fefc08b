package mend

import (
	"slices"
	"strings"
	"testing"

	"mend/api"
)

// holdRepair tests P9 at one text against the second telling of it, and answers
// what Repair answers. How few regions do is tested where there are at most so
// many accesses that all ways to lay them can be gone through.
func holdRepair(t *testing.T, text string, most int) (int, string) {
	t.Helper()
	e := modelRepairError(text)
	kind, answer, gotE := Repair(text)
	if gotE != e {
		t.Fatalf("P9: Repair(%.250q) = %d, %q, %d, want %d", text, kind, answer, gotE, e)
	}
	want := api.Mended
	switch {
	case e != api.OK:
		if kind != 0 || answer != "" {
			t.Errorf("P1: Repair(%.250q) = %d, %q, %d, want nothing beside the error", text, kind, answer, gotE)
		}
		return kind, answer
	case len(modelPairs(text)) == 0:
		want = api.Clean
		if answer != text {
			t.Errorf("P9: Repair(%q) = %q, want the program", text, answer)
		}
	case modelStrip(answer) != text || !modelMends(answer):
		t.Fatalf("P9: Repair(%q) = %q: stripped %q, open pairs %v, order %q", text, answer, modelStrip(answer), modelPairs(answer), modelOrder(answer))
	}
	if kind != want {
		t.Errorf("P9: Repair(%q) = %d, %q, want %d", text, kind, answer, want)
	}
	count := strings.Count(answer, "<")
	if count > 0 && len(modelAccesses(text)) <= most && newLayers(text).mends(0, count-1) {
		t.Errorf("P9: Repair(%q) = %q, which fewer regions do as well", text, answer)
	}
	return kind, answer
}

// holdRuns tests P10 at what Repair answers, for one program and picks.
func holdRuns(t *testing.T, program, answer, picks string) (api.Result, api.Result) {
	t.Helper()
	a, e := Run(answer, picks)
	if e != api.OK {
		t.Fatalf("P10: Run(%q, %q): %d", answer, picks, e)
	}
	left, done := "", ""
	for i := range len(picks) {
		if !strings.Contains(".<>", a.Done[i:i+1]) {
			left += picks[i : i+1]
			done += a.Done[i : i+1]
		}
	}
	b, e := Run(program, left)
	if e != api.OK || b.Done != done || b.Printed != a.Printed || !slices.Equal(b.Globals, a.Globals) || !slices.Equal(b.Registers, a.Registers) {
		t.Fatalf("P10: Run(%q, %q) = %+v, but Run(%q, %q) = %+v, %d", answer, picks, a, program, left, b, e)
	}
	if a.Race != 0 {
		t.Fatalf("P10: Run(%q, %q) races at %d", answer, picks, a.Race)
	}
	if a.Stuck != "" && b.Stuck == "" {
		t.Fatalf("P10: by %q threads %q of %q are stuck, but none of %q by %q", picks, a.Stuck, answer, program, left)
	}
	if order, _ := Order(program); a.Stuck != "" && !circle(order) {
		t.Fatalf("P10: by %q threads %q of %q are stuck, but the order of %q is %q", picks, a.Stuck, answer, program, order)
	}
	return a, b
}

// holdAllRuns tests P10 at all picks at which something happens. It wants a
// program without loops.
func holdAllRuns(t *testing.T, program, answer, picks string) {
	t.Helper()
	a, _ := holdRuns(t, program, answer, picks)
	if strings.HasSuffix(a.Done, ".") {
		return
	}
	for name := range len(a.Registers) {
		holdAllRuns(t, program, answer, picks+"1234"[name:name+1])
	}
}

func TestRepairExamplesOfTheDocument(t *testing.T) {
	for _, c := range []struct {
		program string
		kind    int
		answers []string
	}{
		{"[Agx]|gx", api.Clean, []string{"[Agx]|gx"}},
		{"[Apx]|gx", api.Mended, []string{"[Apx]|<Agx>"}},
		{"px|gx", api.Mended, []string{"<Apx>|<Agx>", "<Bpx>|<Bgx>", "<Cpx>|<Cgx>", "<Dpx>|<Dgx>", "<Epx>|<Egx>"}},
		{"[Apx]|[Bpx]", api.Mended, []string{"[A<Bpx>]|[Bpx]", "[Apx]|[B<Apx>]"}},
	} {
		if kind, answer, e := Repair(c.program); kind != c.kind || !slices.Contains(c.answers, answer) || e != api.OK {
			t.Errorf("P9: Repair(%q) = %d, %q, %d, want %d and one of %q", c.program, kind, answer, e, c.kind, c.answers)
		}
		holdRepair(t, c.program, 4)
	}
	if _, _, e := Repair("<Agx>"); e != api.ErrMended {
		t.Errorf("P9: Repair of a mended program: %d", e)
	}
	if _, _, e := Repair(strings.Repeat("gx", 11)); e != api.ErrMany {
		t.Errorf("P9: Repair of eleven accesses: %d", e)
	}
}

// Each error at its bound, and which goes first.
func TestWhatRepairRefuses(t *testing.T) {
	os := strings.Repeat("o", api.MaxText)
	ten := strings.Repeat("gx", api.MaxAccess)
	for _, c := range []struct {
		program string
		e       api.Errno
	}{
		{ten, api.OK}, {ten + "gx", api.ErrMany}, {ten + "|px", api.ErrMany}, {ten[2:] + "|px", api.OK}, {"px|" + ten, api.ErrMany}, {"!{" + ten + "}?{}{gy}", api.ErrMany},
		{os[:api.MaxMend], api.OK}, {os[:api.MaxMend+1], api.ErrMany}, {os[:api.MaxMend-5] + "px|gx", api.OK}, {os[:api.MaxMend-4] + "px|gx", api.ErrMany}, {os, api.ErrMany},
		{"<Agx>", api.ErrMended}, {"<Egx>|<Egx>", api.ErrMended}, {"px|gx[B?{}{!{<Apz>}}]", api.ErrMended}, {"gx|<Apx>", api.ErrMended},
		{"<Agx>" + ten, api.ErrMended}, {ten + "|||<Epx>", api.ErrMended}, {"<Agx>" + os[:api.MaxText-5], api.ErrMended}, {os[:api.MaxMend] + "<Agx>", api.ErrMended},
		{os + "o", api.ErrLong}, {"<Agx>" + os, api.ErrLong}, {strings.Repeat("\xff", 5000000), api.ErrLong}, {strings.Repeat("gx", 121), api.ErrLong},
		{"<Agx", api.ErrForm}, {"px|gx]", api.ErrForm}, {ten + "g", api.ErrForm}, {os[1:] + "g", api.ErrForm}, {"[A[A]]|<Agx>|g", api.ErrForm}, {"px|gx||||", api.ErrForm}, {"px|gx\x00", api.ErrForm},
		{"[A<Agx>]", api.ErrNest}, {"px|gx[A[A]]", api.ErrNest}, {"<Agx>[B[B]]" + ten, api.ErrNest}, {"[A[A]]" + os[6:], api.ErrNest},
	} {
		if kind, answer, e := Repair(c.program); e != c.e || (e == api.OK) != (kind != 0) {
			t.Errorf("P9: Repair(%.60q) = %d, %q, %d, want %d", c.program, kind, answer, e, c.e)
		}
		holdRepair(t, c.program, 4)
	}
}

// At both bounds the answer is a program still.
func TestTheLongestAnswer(t *testing.T) {
	program := strings.Repeat("o", api.MaxMend-21) + strings.Repeat("gx", 5) + "|" + strings.Repeat("px", 5)
	kind, answer := holdRepair(t, program, 0)
	if kind != api.Mended || len(answer) != api.MaxMend+3*api.MaxAccess {
		t.Errorf("P9: Repair(%q) = %d, %q", program, kind, answer)
	}
}

func TestWhatIsClean(t *testing.T) {
	for _, program := range []string{
		"", "|||", "o", "px", "pxgxpx|", "gx|gx|gx|gx", "px|py|pz", "px|gy", "[Apx]|[Agx]", "[Dpx]|[Dgx]", "[A[Bpx]]|[B[Cpx]]|[C[Apx]]",
		// A circle that threads may get stuck in is none of its business.
		"[A[B]]|[B[A]]", "[A[Bpx]]|[B[Apx]]",
		"[A!{?{gx}{px}}]|?{[A[Bpx]]}{}",
		strings.Repeat("px", api.MaxAccess),
	} {
		if kind, answer := holdRepair(t, program, 4); kind != api.Clean || answer != program {
			t.Errorf("P9: Repair(%q) = %d, %q, want it clean", program, kind, answer)
		}
	}
}

type fewCase struct {
	program string
	count   int
}

func testHowFew(t *testing.T, cases []fewCase) {
	t.Helper()
	for _, c := range cases {
		kind, answer := holdRepair(t, c.program, 8)
		if kind != api.Mended || strings.Count(answer, "<") != c.count {
			t.Errorf("P9: Repair(%q) = %d, %q, want %d regions", c.program, kind, answer, c.count)
		}
	}
}

func TestHowFewRegions(t *testing.T) {
	testHowFew(t, []fewCase{
		{"px|px", 2}, {"py|gy", 2}, {"gz|pz", 2}, {"px|gx|gx", 3}, {"px|px|px|px", 4}, {"pxpypz|gxgygz", 6},
		{"[Apx]|gx", 1}, {"[Bpx]|gx", 1}, {"[Cpx]|gx", 1}, {"[Dpx]|gx", 1}, {"px|||[Dgx]", 1},
		{"[A[B[C[Dpx]]]]|gx", 1}, {"[A[Bpx]]|[Cgx]", 1}, {"[Apx]|[Bpx]|[Cpx]|[Dpx]", 3}, {"[Apx]|[Bgx]|[Cgx]", 2}, {"[Apxpx]|[Bpx]", 1}, {"[Apx]|[Bpxpx]", 1},
		// One region closes several pairs; some pairs are closed before.
		{"px|[Agx]|[Agx]|[Agx]", 1}, {"px|[Agx]|[Bgx]|[Bgx]", 2}, {"[Apx]|[Agx]|gx", 1}, {"[Apx]|[Apx]|px", 1}, {"px[Apx]|[Agx]gx", 2},
		{"[Apx]|[A[Bpx]]|[Bpx]", 1}, {"[A[Bpx]]|[C[Dpx]]|[A[Cgx]]|[B[Dgx]]", 1},
		// Accesses that conflict with none stay bare.
		{"pxgy|gxgy|gz", 2}, {"gxgxgx|px", 4}, {"gxgxgx|[Bpx]", 3}, {"[Bgxgxgx]|px", 1},
		{"gxgxgxgxgx|pxpxpxpxpx", 10}, {"[Agxgxgxgxgx]|pxpxpxpxpx", 5}, {strings.Repeat("gx", 9) + "|px", 10}, {"[A[B[C[Dpx]]]]|" + strings.Repeat("gx", 9), 9},
		{"?{px}{gx}|!{gx}", 2}, {"[A?{px}{!{gx}}]|?{}{px}o", 1}, {"!{[B?{px}{}]}|?{!{gx}}{px}", 2},
	})
}

// Laid inside a region, a lock must have no way to that region's: by edges that
// the program has, by those that are laid, and by both.
func TestWays(t *testing.T) {
	for _, c := range []struct{ program, answer, other string }{
		{"[A[B]]|[Apx]|[Bpx]", "[A[B]]|[A<Bpx>]|[Bpx]", ""},
		{"[B[A]]|[Apx]|[Bpx]", "[B[A]]|[Apx]|[B<Apx>]", ""},
		{"[A[B]][B[C]]|[Apx]|[Cpx]", "[A[B]][B[C]]|[A<Cpx>]|[Cpx]", ""},
		{"[D[C]][C[B]][B[A]]|[Apx]|[Dpx]", "[D[C]][C[B]][B[A]]|[Apx]|[D<Apx>]", ""},
		{"[D[C]][C[A]][A[B]]|[Bpx]|[Dpx]", "[D[C]][C[A]][A[B]]|[Bpx]|[D<Bpx>]", ""},
		// The outer of two regions matters as the inner one does.
		{"[A[Cpx]]|[Bpx]|[B[A]]", "[A[Cpx]]|[B<Apx>]|[B[A]]", "[A[Cpx]]|[B<Cpx>]|[B[A]]"},
		{"[C[Apx]]|[Bpx]|[B[A]]", "[C[Apx]]|[B<Apx>]|[B[A]]", "[C[Apx]]|[B<Cpx>]|[B[A]]"},
		// Outside of regions no way matters.
		{"[A[B]][B[A]]|[Apx]|px", "[A[B]][B[A]]|[Apx]|<Apx>", ""},
	} {
		if _, answer := holdRepair(t, c.program, 8); answer != c.answer && answer != c.other {
			t.Errorf("P9: Repair(%q) = %q, want %q or %q", c.program, answer, c.answer, c.other)
		}
	}
	testHowFew(t, []fewCase{
		{"[A[B]]|[B[A]]|[Apx]|[Bpx]", 2}, {"[A[B]][B[C]][C[A]]|[Apx]|[Cpx]", 2}, {"[A[B]][B[C]]|[Apx]|[Cpx]", 1},
		// A circle elsewhere does no harm, nor does one that is left behind.
		{"[A[B]]|[B[A]]|[Cpx]|[Dpx]", 1}, {"[A[B]]|[B[A]]|[Apx]|[Cpx]", 1}, {"[A[B]][B[A]]|[C[A]][C[D]]|[Cpx]|[Dpx]", 1},
		// Each of two globals is mended by one region, but both make a circle.
		{"[Apx]|[Bpxpx]", 1}, {"[Apypy]|[Bpy]", 1}, {"[Apxpypy]|[Bpxpxpy]", 3}, {"[Apxpypy]|[Bpxpypx]", 3}, {"[Apxpy]|[Bpxpxpypy]", 2},
		// So of three.
		{"[Apx]|[Bpxpxpy]|[Cpypy]", 2}, {"[Apxpzpz]|[Bpxpxpy]|[Cpypypz]", 4},
		// A way of an edge that is laid and one that the program has.
		{"[Apxpzpz]|[Bpxpx]|[Cpz]", 2}, {"[Apxpzpz]|[Bpxpx]|[Cpz]|[B[C]]", 3}, {"[Apxpzpz]|[Bpxpx]|[Cpz]|[C[B]]", 2},
	})
}

// All ways to lay regions around accesses of small programs, text by text.
func TestNoFewerByText(t *testing.T) {
	m := newMaker(7)
	fewest := [5]int{}
	for range 600 {
		program := m.knot(3 + m.Intn(2))
		_, answer := holdRepair(t, program, 4)
		count := strings.Count(answer, "<")
		fewest[count]++
		if count == 0 {
			continue
		}
		for _, text := range modelLaid(program, 0, count-1) {
			if modelMends(text) {
				t.Errorf("P9: Repair(%q) = %q, but %q does with fewer regions", program, answer, text)
			}
		}
	}
	if min(fewest[0], fewest[1], fewest[2], fewest[3]) < 10 {
		t.Errorf("regions laid in 600 programs: %v: too few of a kind to tell much", fewest)
	}
}

// Larger programs, in many of which fewer regions would do if ways were no
// matter.
func TestMadeUpRepairs(t *testing.T) {
	m := newMaker(8)
	clean, mended, ways := 0, 0, 0
	for i := range 3000 {
		program := m.knot(4 + m.Intn(3))
		if i%3 == 0 {
			program = m.repeats(3)
		}
		kind, answer := holdRepair(t, program, 7)
		count := strings.Count(answer, "<")
		if kind == api.Clean {
			clean++
			continue
		}
		mended++
		l := newLayers(program)
		l.free = true
		if l.mends(0, count-1) {
			ways++
		}
	}
	t.Logf("clean %d, mended %d, ways matter in %d", clean, mended, ways)
	if min(clean, mended, ways) < 100 {
		t.Errorf("clean %d, mended %d, ways matter in %d: too few of a kind to tell much", clean, mended, ways)
	}
}

// What Strip leaves of made-up programs has tests and loops, too.
func TestRepairsOfStripped(t *testing.T) {
	m := newMaker(9)
	mended := 0
	for range 3000 {
		program, e := Strip(m.program())
		if e != api.OK {
			continue
		}
		kind, answer := holdRepair(t, program, 6)
		if kind != api.Mended {
			continue
		}
		mended++
		for range 5 {
			holdRuns(t, program, answer, m.picks("1234", 80))
		}
	}
	if mended < 300 {
		t.Errorf("only %d of 3000 programs are mended: too few to tell much", mended)
	}
}

// P10 at all picks of programs that would race, or get stuck if other regions
// were laid.
func TestAllRunsOfRepairs(t *testing.T) {
	for _, program := range []string{
		"gxi1px|gxi1px", "i1px|gx?{o}{oo}", "[Ai1px]|[Bgxo]", "[A[B]]|[Apx]|[Bpx]", "[B[A]]|[Apx]|[Bpx]",
		"[A[B]]|[Bi1px]|[Agxo]", "[Ai1px]|[Bpxgx]|[B[A]]", "[A[B]]|[B[A]]", "[A[Bpx]]|[B[Agx]]|gx", "[A[Bi1]px]|[B[A]gx]",
		"[Apxpypy]|[Bpxpxpy]", "[Apx]|[Bpx]|[Cgx]", "px|gx|gx|px",
	} {
		_, answer := holdRepair(t, program, 6)
		holdAllRuns(t, program, answer, "")
	}
}

// P10 at made-up picks of programs that race and get stuck before they are
// mended.
func TestRunsOfRepairs(t *testing.T) {
	m := newMaker(10)
	raced, stuck, still, never := 0, 0, 0, 0
	for range 3000 {
		program := m.knot(3 + m.Intn(5))
		order, _ := Order(program)
		kind, answer := holdRepair(t, program, 4)
		for range 10 {
			picks := m.picks("1234"[:1+strings.Count(program, "|")], 60)
			a, _ := holdRuns(t, program, answer, picks)
			b, _ := Run(program, picks)
			raced += min(1, b.Race)
			stuck += min(1, len(b.Stuck))
			if kind == api.Mended && a.Stuck != "" {
				still++
			}
			if kind == api.Mended && !circle(order) && len(order) > 2 {
				never++
			}
		}
	}
	t.Logf("before: raced %d, stuck %d; mended: stuck still %d, never %d", raced, stuck, still, never)
	if min(raced, stuck, still, never) < 100 {
		t.Errorf("before: raced %d, stuck %d; mended: stuck still %d, never %d: too few of a kind to tell much", raced, stuck, still, never)
	}
}

// P2: an answer is the same, whatever was asked in between.
func TestRepairsHangOnArgumentsAlone(t *testing.T) {
	m := newMaker(11)
	var programs, answers []string
	for range 200 {
		program := m.knot(5)
		_, answer, _ := Repair(program)
		programs, answers = append(programs, program), append(answers, answer)
	}
	for _, i := range append(m.Perm(len(programs)), m.Perm(len(programs))...) {
		if _, answer, e := Repair(programs[i]); answer != answers[i] || e != api.OK {
			t.Errorf("P2: Repair(%q) = %q, then %q, %d", programs[i], answers[i], answer, e)
		}
	}
}

func FuzzRepair(f *testing.F) {
	f.Add("[A[B]]|[Apx]|[Bpx]", "121212")
	f.Add("[Apxpypy]|[Bpxpxpy]", "12112 21")
	f.Add("?{px}{gx}|!{[Agx]}|[D[C[Bpx]]]", "1231231")
	f.Fuzz(func(t *testing.T, program, picks string) {
		kind, answer := holdRepair(t, program, 6)
		if kind == api.Mended && len(picks) <= api.MaxPicks {
			holdRuns(t, program, answer, picks)
		}
	})
}

// knot makes up a program of so many accesses inside regions in all orders.
func (m maker) knot(accesses int) string {
	threads := make([]string, 2+m.Intn(3))
	for range accesses {
		s := m.one("gpp") + m.one("xxy")
		if m.Intn(2) == 0 {
			s = "i" + m.one("0123456789") + s + m.one("o ")
		}
		s = m.nest(strings.TrimSpace(s), m.Intn(4))
		threads[m.Intn(len(threads))] += s
	}
	for range m.Intn(4) {
		threads[m.Intn(len(threads))] += m.nest("", 2)
	}
	return strings.Join(threads, "|")
}

// repeats makes up a program of so many accesses, each up to three times.
func (m maker) repeats(accesses int) string {
	threads := make([]string, 2+m.Intn(2))
	for range accesses {
		s := m.nest(m.one("gpp")+m.one("xxy"), m.Intn(3))
		threads[m.Intn(len(threads))] += strings.Repeat(s, 1+m.Intn(3))
	}
	return strings.Join(threads, "|") + "|" + m.nest("", 2) + m.nest("", 2)
}

// nest lays regions of so many locks around a body.
func (m maker) nest(body string, regions int) string {
	for _, lock := range m.Perm(4)[:regions] {
		body = "[" + "ABCD"[lock:lock+1] + body + "]"
	}
	return body
}

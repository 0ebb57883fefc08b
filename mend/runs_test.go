package mend

import (
	"reflect"
	"slices"
	"strings"
	"testing"

	"mend/api"
)

// holdRun tests P6 at one program and picks against the second telling of it.
func holdRun(t *testing.T, program, picks string) api.Result {
	t.Helper()
	want := api.Result{}
	e, _ := modelCheck(program)
	if e == api.OK && len(picks) > api.MaxPicks {
		e = api.ErrPicks
	}
	if e == api.OK {
		want = modelRun(program, picks)
	}
	got, gotE := Run(program, picks)
	if gotE != e || !sameResult(got, want) {
		t.Errorf("P6: Run(%.250q, %.410q) = %+v, %d, want %+v, %d", program, picks, got, gotE, want, e)
	}
	return got
}

func sameResult(a, b api.Result) bool {
	return a.Done == b.Done && a.Printed == b.Printed && slices.Equal(a.Globals, b.Globals) &&
		slices.Equal(a.Registers, b.Registers) && a.Race == b.Race && a.Stuck == b.Stuck
}

type runCase struct {
	program, picks string
	want           api.Result
}

func testRuns(t *testing.T, cases []runCase) {
	t.Helper()
	for _, c := range cases {
		if c.want.Globals == nil {
			c.want.Globals = []int{0, 0, 0}
		}
		if c.want.Registers == nil {
			c.want.Registers = make([]int, 1+strings.Count(c.program, "|"))
		}
		if got, e := Run(c.program, c.picks); e != api.OK || !sameResult(got, c.want) {
			t.Errorf("P6: Run(%q, %q) = %+v, %d, want %+v", c.program, c.picks, got, e, c.want)
		}
		holdRun(t, c.program, c.picks)
	}
}

func TestRunExamplesOfTheDocument(t *testing.T) {
	testRuns(t, []runCase{
		{"gxi1px|gxi1px", "121212", api.Result{Done: "ggiipp", Globals: []int{1, 0, 0}, Registers: []int{1, 1}, Race: 5}},
		{"[Agxi1px]|[Agxi1px]", "1211112222222", api.Result{Done: "[.gip][gip]..", Globals: []int{2, 0, 0}, Registers: []int{1, 2}}},
		{"[A[Bi1]]|[B[Ao]]", "1212", api.Result{Done: "[[..", Stuck: "12"}},
		{"i2!{oi9}", "1111111 1x", api.Result{Done: "itoitoi.f.", Printed: "21"}},
		{"px[A]|[A]gx", "111222", api.Result{Done: "p[][]g"}},
		{"px[A]|[A]gx", "1222", api.Result{Done: "p[]g", Race: 4}},
	})
}

// What a step does: each kind, each global, the registers' way round from 9.
func TestSteps(t *testing.T) {
	testRuns(t, []runCase{
		{"", "", api.Result{}},
		{"i1px|i2py|i3pz", "112233", api.Result{Done: "ipipip", Globals: []int{1, 2, 3}, Registers: []int{1, 2, 3}}},
		{"i4pxi1pygxpz", "111111", api.Result{Done: "ipipgp", Globals: []int{4, 5, 4}, Registers: []int{4}}},
		{"i9oi1oi0oi9oi9o", "1111111111", api.Result{Done: "ioioioioio", Printed: "90098", Registers: []int{8}}},
		{"i5i5?{o}{i3o}", "11111", api.Result{Done: "iifio", Printed: "3", Registers: []int{3}}},
		{"i1?{i2o}{o}o", "111111", api.Result{Done: "itioo.", Printed: "33", Registers: []int{3}}},
		{"?{o}{}i7", "111", api.Result{Done: "fi.", Registers: []int{7}}},
		{"i1?{}{o}i7", "1111", api.Result{Done: "iti.", Registers: []int{8}}},
		{"?{?{o}{o}}{?{o}{i6}}o", "11111", api.Result{Done: "ffio.", Printed: "6", Registers: []int{6}}},
		{"i1?{?{i1}{o}}{?{o}{o}}o", "111111", api.Result{Done: "ittio.", Printed: "2", Registers: []int{2}}},
		{"!{}!{}", "111", api.Result{Done: "ff."}},
		{"i8!{i1!{oi9}}o", "11111111111111111111111111111111111", api.Result{Done: "ititoitoitoitoitoitoitoitoitoiffo..", Printed: "9876543210"}},
		{"i3!{?{i9}{}}o", "1111111111111", api.Result{Done: "ittittittifo.", Printed: "0"}},
		{"[A[B[C[D]]]]", "111111111", api.Result{Done: "[[[[]]]]."}},
		{"[A]<Agx><Apy>[A<Egz>]", "1111111111111", api.Result{Done: "[]<g><p>[<g>]"}},
		{"o|o", "21", api.Result{Done: "oo", Printed: "00"}},
	})
}

func TestNothingHappens(t *testing.T) {
	testRuns(t, []runCase{
		{"o", "234", api.Result{Done: "..."}},
		{"o|o|o", "4", api.Result{Done: "."}},
		{"|||i5", "4", api.Result{Done: "i", Registers: []int{0, 0, 0, 5}}},
		{"|||i5", "1234", api.Result{Done: "...i", Registers: []int{0, 0, 0, 5}}},
		{"i5|", "1121", api.Result{Done: "i...", Registers: []int{5, 0}}},
		{"[Ao]|[Ao]", "122212", api.Result{Done: "[...o.", Printed: "0"}},
		{"[Ao]|<Agx>", "122122122", api.Result{Done: "[..o..]<g", Printed: "0"}},
		{"<Agx>|[Ai3]", "121212", api.Result{Done: "<.g.>["}},
		{"<Egx>|<Epx>", "1212212", api.Result{Done: "<.g..><"}},
		{"[A]|[B]|[C]|[D]", "12341234", api.Result{Done: "[[[[]]]]"}},
		{"oo", "\u023c1\uff111", api.Result{Done: "..o...o", Printed: "00"}},
		{"i1", "0 5\x001\xff\n", api.Result{Done: "....i..", Registers: []int{1}}},
	})
}

func TestEveryByteAsPick(t *testing.T) {
	for b := range 256 {
		pick := string([]byte{byte(b)})
		r := holdRun(t, "o|o|o|o", pick)
		if want := b >= '1' && b <= '4'; (r.Done == "o") != want || (r.Done == ".") == want {
			t.Errorf("P6: the pick %q does %q", pick, r.Done)
		}
	}
}

func TestRaces(t *testing.T) {
	testRuns(t, []runCase{
		{"px|px", "12", api.Result{Done: "pp", Race: 2}},
		{"px|gx", "12", api.Result{Done: "pg", Race: 2}},
		{"gx|px", "12", api.Result{Done: "gp", Race: 2}},
		{"gx|gx", "12", api.Result{Done: "gg"}},
		{"px|py", "12", api.Result{Done: "pp"}},
		{"pxpxgx|", "111", api.Result{Done: "ppg"}},
		// Picks at which nothing happens are counted, steps of other kinds too.
		{"pxo|?{}{}gx", "1 12 42", api.Result{Done: "p.of..g", Printed: "0", Race: 7}},
		// The first race is told, not the last, nor the one whose earlier access is first.
		{"px|gx|gx", "123", api.Result{Done: "pgg", Race: 2}},
		{"pxpy|gygx", "112 2", api.Result{Done: "ppg.g", Race: 3}},
		// Not the last access alone matters, nor the last of each kind in all threads.
		{"pxgx|gx", "112", api.Result{Done: "pgg", Race: 3}},
		{"px|[Agx]|[Apx]", "1", api.Result{Done: "p"}},
		{"px[A]|[A]px|gx", "1112223", api.Result{Done: "p[][]pg", Race: 7}},
		{"gx|[Agx]|[Apx]", "1222333", api.Result{Done: "g[g][p]", Race: 6}},
		{"gx[B]|[Agx]|[A[Bpx]]", "111222333", api.Result{Done: "g[][g][[p"}},
		// A giving back is known to each later taking of that lock, be it the next or not.
		{"px[A]|[A]|[A]gx", "11122333", api.Result{Done: "p[][][]g"}},
		{"px[A]|[A]|[A]gx", "22111333", api.Result{Done: "[]p[][]g"}},
		// A taking is not known to what takes the lock later, nor what follows the giving back.
		{"[A]px|[A]gx", "111222", api.Result{Done: "[]p[]g", Race: 6}},
		{"[A][Bpx]|[A]gx", "1111222", api.Result{Done: "[][p[]g", Race: 7}},
		{"[Apx]|[A]gx", "111222", api.Result{Done: "[p][]g"}},
		{"<Apx>|[A]gx", "111222", api.Result{Done: "<p>[]g"}},
		{"[Apx]|<Agx>", "111222", api.Result{Done: "[p]<g>"}},
		{"<Epx>|<Egx>", "111222", api.Result{Done: "<p><g>"}},
		{"<Apx>|<Bgx>", "111222", api.Result{Done: "<p><g>", Race: 5}},
		// Known by way of a third thread, and of a fourth.
		{"px[A]|[A][B]|[B]gx", "1112222333", api.Result{Done: "p[][][][]g"}},
		{"px[A]|[B][A]|[B]gx", "1112222333", api.Result{Done: "p[][][][]g", Race: 10}},
		{"px[A]|[A][B]|[B][C]|[C]gx", "11122223333444", api.Result{Done: "p[][][][][][]g"}},
		{"px[A]|[A][B]|[B][C]|[C]gx", "22221113333444", api.Result{Done: "[][]p[][][][]g", Race: 14}},
		// What one learns of a lock is not forgotten at the next one.
		{"px[A]|[B]|[A][B]gx", "1112233333", api.Result{Done: "p[][][][]g"}},
	})
}

func TestStuck(t *testing.T) {
	testRuns(t, []runCase{
		{"[A[B]]|[B[A]]", "12", api.Result{Done: "[[", Stuck: "12"}},
		{"[A[B]]|[B[A]]", "121221", api.Result{Done: "[[....", Stuck: "12"}},
		{"[A[B]]|[B[A]]", "1122", api.Result{Done: "[[.."}},
		// One that waits for a thread that goes on is not stuck.
		{"[A]|[A]", "12", api.Result{Done: "[."}},
		{"[A[B]]|[Bo]", "12", api.Result{Done: "[["}},
		{"[A[B]]|[B[C]]|[Co]", "123", api.Result{Done: "[[["}},
		// One that waits for stuck ones is, whether or not it holds a lock.
		{"[A]|[A[B]]|[B[A]]", "23", api.Result{Done: "[[", Stuck: "123"}},
		{"[C[A]]|[A[B]]|[B[A]]|[C]", "123", api.Result{Done: "[[[", Stuck: "1234"}},
		{"[C[A]]|[A[B]]|[B[A]]|[C]o", "12344", api.Result{Done: "[[[..", Stuck: "1234"}},
		{"[A[B]]|[B[A]]|[Co]|[C]", "123", api.Result{Done: "[[[", Stuck: "12"}},
		{"o|[A[B]]|o|[B[A]]", "24", api.Result{Done: "[[", Stuck: "24"}},
		// Three and four round, and two rounds of two.
		{"[A[B]]|[B[C]]|[C[A]]", "123", api.Result{Done: "[[[", Stuck: "123"}},
		{"[A[B]]|[B[C]]|[C[D]]|[D[A]]", "1234", api.Result{Done: "[[[[", Stuck: "1234"}},
		{"[A[B]]|[C[D]]|[B[A]]|[D[C]]", "1234", api.Result{Done: "[[[[", Stuck: "1234"}},
		{"[A[B]]|[C[D]]|[B[A]]|[D]", "1234", api.Result{Done: "[[[[", Stuck: "13"}},
		// The next step must be to take the lock: a step before it, a test, a body's end.
		{"[Ao[B]]|[B[A]]", "12", api.Result{Done: "[["}},
		{"[A?{}{[B]}]|[B[A]]", "12", api.Result{Done: "[["}},
		{"[A?{}{[B]}]|[B[A]]", "121", api.Result{Done: "[[f", Stuck: "12"}},
		{"[Ai1?{}{o}[B]]|[B[A]]", "1121", api.Result{Done: "[i[t", Registers: []int{1, 0}, Stuck: "12"}},
		// Mended regions get stuck as others do.
		{"[A<Bgx>]|[B<Apx>]", "12", api.Result{Done: "[[", Stuck: "12"}},
		{"[A<Egx>]|<Epx>", "1212", api.Result{Done: "[<.p"}},
		// What was given back is not held any more.
		{"[A[B]]|[B][A]", "1221", api.Result{Done: "[[]["}},
	})
}

func TestPicksAtTheirBound(t *testing.T) {
	ones := strings.Repeat("1", api.MaxPicks)
	loop := "i1!{}"
	if r := holdRun(t, loop, ones); r.Done != "i"+strings.Repeat("t", api.MaxPicks-1) {
		t.Errorf("P6: %d picks do %q", len(ones), r.Done)
	}
	if r := holdRun(t, "!{o}px|gx", strings.Repeat("x", api.MaxPicks-3)+"112"); r.Race != api.MaxPicks {
		t.Errorf("P6: race at the last of %d picks told as %d", api.MaxPicks, r.Race)
	}
	for _, c := range []struct {
		program, picks string
		e              api.Errno
	}{
		{loop, ones + "1", api.ErrPicks},
		{"", ones + "x", api.ErrPicks},
		{"px", strings.Repeat("\x00", 5000000), api.ErrPicks},
		{strings.Repeat("o", api.MaxText), ones, api.OK},
		{strings.Repeat("o", api.MaxText), ones + "1", api.ErrPicks},
		{strings.Repeat("o", api.MaxText+1), "1", api.ErrLong},
		{strings.Repeat("]", api.MaxText+1), ones + "1", api.ErrLong},
		{"gxg", "1", api.ErrForm},
		{"gx]", ones + "1", api.ErrForm},
		{"[A[A]]|g", ones + "1", api.ErrForm},
		{"[Aopx[A]]", "111", api.ErrNest},
		{"[A<Agx>]", ones + "1", api.ErrNest},
	} {
		r, e := Run(c.program, c.picks)
		if e != c.e || e != api.OK && !reflect.ValueOf(r).IsZero() {
			t.Errorf("P6: Run(%.60q, %d picks) = %+v, %d, want %d", c.program, len(c.picks), r, e, c.e)
		}
	}
}

// All picks of up to seven bytes, at programs in which they matter.
func TestAllShortPicks(t *testing.T) {
	for _, program := range []string{
		"[Apx]|[A[Bgx]]", "[A[B]]|[B[A]]", "px<Agy>|<Apy>gx", "i1?{px}{gx}|!{px}gxo", "i9!{i1px}|gx!{}px",
	} {
		allPicks(t, program, "12x", "", 7)
	}
	for _, program := range []string{
		"px[A]|[A][B]|[B]gx", "[A[B]]|[B[C]]|[C[A]]", "[A[B]]|[B<Agx>]", "<Agx>|[A<Bpx>]|[B]gx",
	} {
		allPicks(t, program, "123", "", 7)
	}
	allPicks(t, "[A[B]]|[B[C]]|[C[D]]|[D[A]]", "1234", "", 6)
}

func allPicks(t *testing.T, program, bytes, picks string, more int) {
	holdRun(t, program, picks)
	if more == 0 {
		return
	}
	for _, b := range bytes {
		allPicks(t, program, bytes, picks+string(b), more-1)
	}
}

func (m maker) picks(bytes string, length int) string {
	s := ""
	for range m.Intn(length + 1) {
		s += m.one(bytes)
	}
	return s
}

// tangle makes up a program of short threads full of regions, in which much
// races and gets stuck.
func (m maker) tangle() string {
	var threads []string
	for range 2 + m.Intn(3) {
		s := ""
		for range 1 + m.Intn(3) {
			locks := m.Perm(3)
			inner := "[" + "ABC"[locks[0]:locks[0]+1] + m.body(0) + "]"
			s += m.body(0) + "[" + "ABC"[locks[1]:locks[1]+1] + m.one("pg") + m.one("xy") + inner + "]"
		}
		threads = append(threads, s)
	}
	return strings.Join(threads, "|")
}

func TestMadeUpRuns(t *testing.T) {
	m := newMaker(4)
	ran, raced, clean, stuck, partly, printed, looped := 0, 0, 0, 0, 0, 0, 0
	for i := range 12000 {
		program := m.program()
		if i%2 == 0 {
			program = m.tangle()
		}
		for range 3 {
			picks := m.picks("11223344"[:4+m.Intn(5)]+"x", 60)
			r := holdRun(t, program, picks)
			if len(r.Registers) == 0 {
				continue
			}
			ran++
			switch {
			case r.Race > 0:
				raced++
			case strings.Count(r.Done, "p") > 1:
				clean++
			}
			switch {
			case len(r.Stuck) > 0 && len(r.Stuck) < len(r.Registers):
				partly++
			case len(r.Stuck) > 0:
				stuck++
			}
			printed += min(1, len(r.Printed))
			looped += min(1, strings.Count(r.Done, "t"))
		}
	}
	t.Logf("of %d runs raced %d, did not %d, got stuck %d, in part %d, printed %d, tested truly %d", ran, raced, clean, stuck, partly, printed, looped)
	if min(raced, clean, stuck, partly, printed, looped) < 100 {
		t.Errorf("too few runs of a kind to tell much")
	}
}

// P6 holds at the longest of runs, too.
func TestLongRuns(t *testing.T) {
	m := newMaker(5)
	program := "i1!{[Agxi1px]<Bgy>i1<Bpy>?{i1}{i2}}|i1!{[Agxi1px]gz<Bpy>}|!{}i3!{pz[A[B]]}"
	for range 20 {
		holdRun(t, program, m.picks("1231231x", api.MaxPicks))
	}
}

// P2: whatever a caller writes into a result's lists and their spare room, no
// other list shows it.
func TestResultsAreTheCallers(t *testing.T) {
	for _, c := range [][2]string{{"", ""}, {"i1px|o|i2", "11233"}, {"o|o|o|o", "1234"}} {
		before, _ := Run(c[0], c[1])
		scribbled, _ := Run(c[0], c[1])
		want := modelRun(c[0], c[1])
		globals := scribbled.Globals[:cap(scribbled.Globals)]
		registers := scribbled.Registers[:cap(scribbled.Registers)]
		for i := range globals {
			globals[i] = -1
		}
		if slices.Contains(registers, -1) {
			t.Errorf("P2: Run(%q, %q): the lists of one result share memory", c[0], c[1])
		}
		for i := range registers {
			registers[i] = -1
		}
		after, _ := Run(c[0], c[1])
		for _, r := range []api.Result{before, after} {
			room := append(slices.Clone(r.Globals[:cap(r.Globals)]), r.Registers[:cap(r.Registers)]...)
			if slices.Contains(room, -1) || !sameResult(r, want) {
				t.Errorf("P2: a result of Run(%q, %q) shares memory with another: %+v", c[0], c[1], r)
			}
		}
	}
}

// P2: a result is the same, whatever was asked in between.
func TestRunsHangOnArgumentsAlone(t *testing.T) {
	m := newMaker(6)
	var asked [][2]string
	for range 100 {
		asked = append(asked, [2]string{m.program(), m.picks("1234", 30)}, [2]string{m.tangle(), m.picks("1234", 30)})
	}
	for _, i := range append(m.Perm(len(asked)), m.Perm(len(asked))...) {
		holdRun(t, asked[i][0], asked[i][1])
	}
}

func FuzzRun(f *testing.F) {
	f.Add("gxi1px|gxi1px", "121212")
	f.Add("i2!{oi9}", "1111111 1x")
	f.Add("[A[B]]|[B<Agx>]|?{px}{}", "12123")
	f.Fuzz(func(t *testing.T, program, picks string) { holdRun(t, program, picks) })
}

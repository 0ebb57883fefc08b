package mend

import (
	"slices"
	"strings"
	"testing"

	"mend/api"
)

// hold tests P1 to P5 and P7 to P9 at one text against the second telling of them.
func hold(t *testing.T, text string) {
	t.Helper()
	e, at := modelCheck(text)
	if gotE, gotAt := Check(text); gotE != e || gotAt != at {
		t.Errorf("P3: Check(%.250q) = %d, %d, want %d, %d", text, gotE, gotAt, e, at)
	}
	strip, accesses := "", []api.Access(nil)
	pairs, order := []int(nil), ""
	if e == api.OK {
		strip, accesses = modelStrip(text), modelAccesses(text)
		pairs, order = modelPairs(text), modelOrder(text)
	}
	if got, gotE := Strip(text); got != strip || gotE != e {
		t.Errorf("P4: Strip(%.250q) = %q, %d, want %q, %d", text, got, gotE, strip, e)
	}
	if got, gotE := Accesses(text); !slices.Equal(got, accesses) || gotE != e {
		t.Errorf("P5: Accesses(%.250q) = %+v, %d, want %+v, %d", text, got, gotE, accesses, e)
	}
	if got, gotE := Pairs(text); !slices.Equal(got, pairs) || gotE != e {
		t.Errorf("P7: Pairs(%.250q) = %v, %d, want %v, %d", text, got, gotE, pairs, e)
	}
	if got, gotE := Order(text); got != order || gotE != e {
		t.Errorf("P8: Order(%.250q) = %q, %d, want %q, %d", text, got, gotE, order, e)
	}
	if e == api.OK {
		holdRepair(t, text, 3)
	} else if kind, got, gotE := Repair(text); kind != 0 || got != "" || gotE != e {
		t.Errorf("P9: Repair(%.250q) = %d, %q, %d, want %d", text, kind, got, gotE, e)
	}
}

func TestExamplesOfTheDocument(t *testing.T) {
	for _, c := range []struct {
		program string
		e       api.Errno
		at      int
	}{
		{"[Agxi1px]|[Agxi1px]", api.OK, 0},
		{"gxpw", api.ErrForm, 3},
		{"", api.OK, 0},
		{"[Egx]", api.ErrForm, 1},
		{"<Egx>", api.OK, 0},
		{"[Agx", api.ErrForm, 4},
		{"||||", api.ErrForm, 3},
		{"[A?{[Bgx[Apy]]}{}]", api.ErrNest, 8},
		{"[A<Agx>]", api.ErrNest, 2},
		{"<Agxpy>", api.ErrForm, 4},
	} {
		if e, at := Check(c.program); e != c.e || at != c.at {
			t.Errorf("P3: Check(%q) = %d, %d, want %d, %d", c.program, e, at, c.e, c.at)
		}
	}
	if s, e := Strip("<Agx>i1<Epx>|[Bgx]"); s != "gxi1px|[Bgx]" || e != api.OK {
		t.Errorf("P4: Strip = %q, %d", s, e)
	}
	want := []api.Access{
		{Thread: 1, At: 2, Global: 0, Put: false, Held: "B"},
		{Thread: 2, At: 10, Global: 1, Put: true, Held: "AE"},
	}
	if l, e := Accesses("[Bgx]|[A<Epy>]"); !slices.Equal(l, want) || e != api.OK {
		t.Errorf("P5: Accesses = %+v, %d", l, e)
	}
}

// Lengths at the bound, and that ErrLong goes before ErrForm, and that before
// ErrNest.
func TestWhichErrorIsNamed(t *testing.T) {
	os := strings.Repeat("o", api.MaxText)
	for _, c := range []struct {
		program string
		e       api.Errno
		at      int
	}{
		{os, api.OK, 0},
		{os + "o", api.ErrLong, 0},
		{os + "g", api.ErrLong, 0},
		{os[1:] + "g", api.ErrForm, api.MaxText},
		{os[1:] + "]", api.ErrForm, api.MaxText - 1},
		{"[A" + os[2:], api.ErrForm, api.MaxText},
		{strings.Repeat("]", api.MaxText+1), api.ErrLong, 0},
		{"[A[A]]" + os, api.ErrLong, 0},
		{"[A[A]" + os[5:], api.ErrForm, api.MaxText},
		{"[A[A]]" + os[6:], api.ErrNest, 2},
		{"[A[A]]|g", api.ErrForm, 8},
		{"[A[A]]||||", api.ErrForm, 9},
		{"[B[A<A", api.ErrForm, 6},
		{"[A<Agx>][A[A]]", api.ErrNest, 2},
		{"[B<Agx>[C[B]]]", api.ErrNest, 9},
		{"|||[D!{?{}{<Dpz>}}]", api.ErrNest, 11},
	} {
		if e, at := Check(c.program); e != c.e || at != c.at {
			t.Errorf("P3: Check(%.250q) = %d, %d, want %d, %d", c.program, e, at, c.e, c.at)
		}
		hold(t, c.program)
	}
}

// The same lock side by side, in other threads, and behind a region is no nest.
func TestWhatIsNoNest(t *testing.T) {
	for _, program := range []string{
		"[A][A]", "[A]|[A]", "[A[B]][B[A]]", "<Agx><Agx>", "[A]<Apx>", "[A[B][B]<Cgx><Cgx>]", "?{[A]}{[A]}", "[D[C[B[A<Egx>]]]]<Egx>",
	} {
		if e, at := Check(program); e != api.OK || at != 0 {
			t.Errorf("P3: Check(%q) = %d, %d, want OK", program, e, at)
		}
	}
}

func TestDeepPrograms(t *testing.T) {
	for _, unit := range [][2]string{{"!{", "}"}, {"?{", "}{}"}, {"?{}{", "}"}} {
		n := api.MaxText / (len(unit[0]) + len(unit[1]))
		program := strings.Repeat(unit[0], n) + strings.Repeat(unit[1], n)
		for i := range len(program) + 1 {
			hold(t, program[:i])
		}
	}
}

func TestEveryByteInEveryPlace(t *testing.T) {
	programs := []string{
		"", "gx", "i5", "o|", "|||", "[Agx]", "<Epz>", "?{gx}{py}", "!{o}", "[B<Apy>]", "[A!{[B?{}{<Cgz>}]}]|o", "?{[A", "?{}{[D!{", "[C<B",
	}
	for _, program := range programs {
		for at := range len(program) + 1 {
			for b := range 256 {
				hold(t, program[:at]+string([]byte{byte(b)})+program[at:])
				if at < len(program) {
					hold(t, program[:at]+string([]byte{byte(b)})+program[at+1:])
				}
			}
		}
	}
}

func TestAllShortTexts(t *testing.T) { allTexts(t, "", 4) }

func allTexts(t *testing.T, begin string, more int) {
	hold(t, begin)
	if more == 0 {
		return
	}
	for _, b := range "gxiA1o[]<>?!{}|F" {
		allTexts(t, begin+string(b), more-1)
	}
}

func TestMadeUpPrograms(t *testing.T) {
	m := newMaker(1)
	good := 0
	for range 4000 {
		program := m.program()
		hold(t, program)
		if e, _ := Check(program); e == api.OK {
			good++
		}
		cut := program[:m.Intn(len(program)+1)]
		hold(t, cut)
		for range 4 {
			hold(t, m.spoiled(program))
		}
	}
	if good < 1000 {
		t.Errorf("of 4000 programs only %d are without error: too few to tell much", good)
	}
}

// What Strip leaves is a program that has nothing to strip.
func TestStripTwice(t *testing.T) {
	m := newMaker(2)
	for range 1000 {
		program := m.program()
		once, e := Strip(program)
		if e != api.OK {
			continue
		}
		twice, e := Strip(once)
		if e != api.OK || twice != once || strings.ContainsAny(once, "<>") {
			t.Errorf("P4: Strip(%q) = %q, and of that %q, %d", program, once, twice, e)
		}
	}
}

func TestHeld(t *testing.T) {
	for _, c := range []struct{ program, held string }{
		{"gx", ""}, {"[A]gx", ""}, {"[Bgx]", "B"}, {"[D[C[B[Agx]]]]", "ABCD"}, {"[D[B<Egx>]]", "BDE"}, {"[C<Agx>]", "AC"}, {"[A[B]gx]", "A"}, {"[A]|[Bgx]", "B"}, {"[B?{[A]}{gx}]", "B"}, {"[C!{[A<Bpx>]}]", "ABC"}, {"[A[D]<Bgx>]", "AB"},
	} {
		l, e := Accesses(c.program)
		if e != api.OK || len(l) != 1 || l[0].Held != c.held {
			t.Errorf("P5: Accesses(%q) = %+v, %d, want one at which %q is held", c.program, l, e, c.held)
		}
	}
}

func TestManyAccesses(t *testing.T) {
	l, e := Accesses(strings.Repeat("pz", api.MaxText/2))
	if e != api.OK || len(l) != api.MaxText/2 {
		t.Fatalf("P5: %d accesses, %d", len(l), e)
	}
	for i, a := range l {
		if want := (api.Access{Thread: 1, At: 2 * i, Global: 2, Put: true}); a != want {
			t.Errorf("P5: access %d is %+v, want %+v", i, a, want)
		}
	}
}

// P1: with an error all other results are empty, but for Check's place.
func TestNothingWithAnError(t *testing.T) {
	for _, c := range []struct {
		program string
		e       api.Errno
	}{
		{strings.Repeat("gx", 121), api.ErrLong}, {strings.Repeat("\xff", 5000000), api.ErrLong},
		{"gx<Apx>]", api.ErrForm}, {"gxg", api.ErrForm}, {"\x00", api.ErrForm}, {"gx\u00e9", api.ErrForm},
		{"gx[A<Apx>]", api.ErrNest},
		{"px|gx[A[B]]" + strings.Repeat("o", api.MaxText), api.ErrLong}, {"px|gx[A[B]]||||", api.ErrForm}, {"px|gx[A[B]", api.ErrForm}, {"px|gx[A[B[A]]]", api.ErrNest},
	} {
		if e, _ := Check(c.program); e != c.e {
			t.Errorf("P1: Check(%.60q) = %d, want %d", c.program, e, c.e)
		}
		if s, e := Strip(c.program); s != "" || e != c.e {
			t.Errorf("P1: Strip(%.60q) = %q, %d, want nothing and %d", c.program, s, e, c.e)
		}
		if l, e := Accesses(c.program); len(l) != 0 || e != c.e {
			t.Errorf("P1: Accesses(%.60q) = %+v, %d, want nothing and %d", c.program, l, e, c.e)
		}
		if l, e := Pairs(c.program); len(l) != 0 || e != c.e {
			t.Errorf("P1: Pairs(%.60q) = %v, %d, want nothing and %d", c.program, l, e, c.e)
		}
		if s, e := Order(c.program); s != "" || e != c.e {
			t.Errorf("P1: Order(%.60q) = %q, %d, want nothing and %d", c.program, s, e, c.e)
		}
		if n, s, e := Repair(c.program); n != 0 || s != "" || e != c.e {
			t.Errorf("P1: Repair(%.60q) = %d, %q, %d, want nothing and %d", c.program, n, s, e, c.e)
		}
	}
}

// P2: whatever a caller writes into a list and its spare room, no other list
// shows it, be it handed out before or afterwards.
func TestListsAreTheCallers(t *testing.T) {
	programs := []string{"", "gx", "gx|px|gy", "[Agxpygz]|<Bpx>", "gx]", strings.Repeat("gx", 120)}
	for _, program := range programs {
		before, _ := Accesses(program)
		scribbled, _ := Accesses(program)
		room := scribbled[:cap(scribbled)]
		for i := range room {
			room[i] = api.Access{Thread: -1, At: -1, Global: -1, Held: "scribble"}
		}
		after, _ := Accesses(program)
		for _, list := range [][]api.Access{before, after} {
			for _, a := range list[:cap(list)] {
				if a.Held == "scribble" {
					t.Fatalf("P2: a list of Accesses(%.60q) shares memory with another", program)
				}
			}
		}
		if !slices.Equal(before, after) {
			t.Errorf("P2: Accesses(%.60q) = %+v, then %+v", program, before, after)
		}
	}
}

// P2: an answer is the same, whatever was asked in between.
func TestAnswersHangOnArgumentsAlone(t *testing.T) {
	m := newMaker(3)
	var programs []string
	for range 200 {
		program := m.program()
		programs = append(programs, program, m.spoiled(program))
	}
	for _, i := range append(m.Perm(len(programs)), m.Perm(len(programs))...) {
		hold(t, programs[i])
	}
}

func FuzzTexts(f *testing.F) {
	for _, program := range []string{"", "[A?{[Bgx[Apy]]}{}]", "<Agx>i1<Epx>|[Bgx]", "|||!{o}", "[A<Agx>]"} {
		f.Add(program)
	}
	f.Fuzz(hold)
}

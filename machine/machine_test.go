package machine

import (
	"slices"
	"strings"
	"testing"

	"mend/api"
	"mend/code"
)

func run(t *testing.T, program, picks string) api.Result {
	t.Helper()
	steps, e, at := code.Read(program)
	if e != api.OK {
		t.Fatalf("%q is no program: %d at %d", program, e, at)
	}
	before := slices.Clone(steps)
	r := Run(steps, picks)
	if !slices.Equal(steps, before) {
		t.Errorf("Run(%q, %q) changes the steps", program, picks)
	}
	return r
}

func TestOneRun(t *testing.T) {
	r := run(t, "i7!{[Bpx]i3}o|<Bgx>?{i5}{}py", "1121221112221111")
	if r.Done != "it<.g>[p]fp.ifo." || r.Printed != "0" || !slices.Equal(r.Globals, []int{7, 0, 0}) ||
		!slices.Equal(r.Registers, []int{0, 0}) || r.Race != 0 || r.Stuck != "" {
		t.Errorf("%+v", r)
	}
}

// What comes of a run does not hang on the order of threads that have nothing to
// do with each other, but for the names.
func TestThreadsApart(t *testing.T) {
	a := run(t, "i1px[A]|gy[B]", "1111222")
	b := run(t, "i1px[A]|gy[B]", "2221111")
	if a.Done != "ip[]g[]" || b.Done != "g[]ip[]" || !slices.Equal(a.Globals, b.Globals) || !slices.Equal(a.Registers, b.Registers) {
		t.Errorf("%+v and %+v", a, b)
	}
}

// Steps that no program has, such as a Jump that leads to itself or out of the
// program, end a thread and do no harm.
func TestStepsOfNoProgram(t *testing.T) {
	for _, steps := range [][]code.Step{
		nil,
		{{Kind: code.Jump, Thread: 1, Next: 0}},
		{{Kind: code.Jump, Thread: 1, Next: 1}, {Kind: code.Jump, Thread: 1, Next: 0}},
		{{Kind: code.Jump, Thread: 1, Next: -1}},
		{{Kind: code.Jump, Thread: 1, Next: 7}},
	} {
		if r := Run(steps, "11"); r.Done != ".." || r.Race != 0 || r.Stuck != "" {
			t.Errorf("Run(%+v) = %+v", steps, r)
		}
	}
	for _, number := range []int{-1, api.Globals, api.Locks, 1 << 40} {
		for _, kind := range []int{code.Get, code.Put, code.Take, code.Give} {
			r := Run([]code.Step{{Kind: kind, Thread: 1, Number: number, Next: 1}}, "11")
			if len(r.Done) != 2 || !slices.Equal(r.Globals, []int{0, 0, 0}) || r.Race != 0 || r.Stuck != "" {
				t.Errorf("a step of kind %d and number %d: %+v", kind, number, r)
			}
		}
	}
}

// As many Jumps as there are bodies follow each other.
func TestManyJumps(t *testing.T) {
	deep := strings.Repeat("?{", 40) + "o" + strings.Repeat("}{}", 40)
	r := run(t, "i1"+deep+"o", strings.Repeat("1", 44))
	if want := "i" + strings.Repeat("t", 40) + "oo."; r.Done != want {
		t.Errorf("done %q, want %q", r.Done, want)
	}
}

package dowker_test

import (
	"math"
	"slices"
	"strings"
	"testing"

	"unravel/api"
	"unravel/diagram"
	"unravel/dowker"
)

var extremes = []int{math.MinInt, math.MinInt + 1, math.MinInt + 2, -1 << 32, -256, -130, -128, -64, -4, -3, -2, -1, 0, 1, 2, 3, 4,
	28, 30, 64, 127, 128, 129, 130, 256, 1 << 32, 1<<32 + 2, 1<<62 + 1, math.MaxInt - 1, math.MaxInt}

// callAll calls every function of a code with it. Panics fail the test, and so
// does a call that runs on, by the time limit of go test.
func callAll(t *testing.T, code []int) {
	t.Helper()
	defer func() {
		if p := recover(); p != nil {
			t.Errorf("%v: panic: %v", code, p)
		}
	}()
	before := slices.Clone(code)
	isValid := dowker.Valid(code)
	signs, e := dowker.Signs(code)
	if (e == api.ErrForm) == isValid || (e == api.OK) != (signs != nil) || e == api.OK && len(signs) != len(code) {
		t.Errorf("%v: the signs %v, %d", code, signs, e)
	}
	d, f := dowker.Diagram(code)
	if f != e || (f == api.OK) == isZero(d) || !diagram.Valid(d) {
		t.Errorf("%v: the diagram %v, %d", code, d, f)
	}
	read, e := dowker.Parse(dowker.Format(code))
	if (e == api.OK) != isValid || isValid && !slices.Equal(read, code) || !isValid && (read != nil || e != api.ErrForm && e != api.ErrFull) {
		t.Errorf("%v: the code %v, %d of its text", code, read, e)
	}
	if !slices.Equal(code, before) {
		t.Errorf("%v: was %v before the calls", code, before)
	}
}

func TestNoCodePanics(t *testing.T) {
	for _, k := range knots() {
		callAll(t, k.code)
	}
	for _, code := range invalidCodes() {
		callAll(t, code)
	}
	for _, n := range extremes {
		callAll(t, []int{n})
		for _, k := range extremes {
			callAll(t, []int{n, k})
			callAll(t, []int{4, n, k})
			callAll(t, append(evens(1, 62), n, k))
		}
	}
	for _, n := range []int{65, 66, 1 << 10, 1 << 20} {
		callAll(t, make([]int, n))
		callAll(t, evens(1, n))
		callAll(t, slices.Repeat([]int{2}, n))
		callAll(t, slices.Repeat([]int{math.MinInt}, n))
	}
}

func TestNoDiagramPanics(t *testing.T) {
	callOf := func(d api.Diagram) {
		t.Helper()
		before := diagram.Clone(d)
		code, e := dowker.Of(d)
		if (e == api.ErrArg) == diagram.Valid(d) || (e == api.OK) != (code != nil) || e == api.OK && len(code) != len(d.Signs) {
			t.Errorf("%v: the code %v, %d", d, code, e)
		}
		if !diagram.Equal(d, before) {
			t.Errorf("%v: was %v before the call", d, before)
		}
	}
	for _, k := range knots() {
		callOf(k.d)
	}
	for _, d := range invalidDiagrams() {
		callOf(d)
	}
	for _, n := range extremes {
		callOf(diagramOf(nil, n))
		callOf(diagramOf([]int{n}, 0))
		for _, k := range extremes {
			callOf(diagramOf([]int{1}, 0, n, k, 3, 2))
			callOf(diagramOf([]int{n}, k, 1, 0, 3, 2))
			callOf(diagramOf([]int{n}, k, 3, 2, 1, 0))
			callOf(diagramOf(nil, k, n))
		}
	}
	for h := range 12 {
		for _, n := range extremes {
			d := knots()["trefoil"].d
			d.Mate[h] = n
			callOf(d)
		}
	}
	callOf(diagramOf(make([]int, 1<<18), 0, make([]int, 1<<20)...))
}

func TestNoTextPanics(t *testing.T) {
	pieces := []string{"2", "4", "-", "+", " ", "0", "1", "9", "\n", "\t", "\xff", "é", "2 4", "9223372036854775808"}
	for _, a := range pieces {
		for _, b := range pieces {
			compareText(t, a+b)
			checkRepeated(t, a+b)
			for _, c := range pieces {
				for _, d := range pieces {
					compareText(t, a+b+c+d)
				}
			}
		}
	}
}

func checkRepeated(t *testing.T, s string) {
	t.Helper()
	long := strings.Repeat(s, api.MaxText/len(s))
	if code, e := dowker.Parse(long); e != api.ErrForm || code != nil {
		t.Errorf("%q repeated: %v, %d", s, code, e)
	}
	if code, e := dowker.Parse(long + s); e != api.ErrFull || code != nil {
		t.Errorf("%q repeated too often: %v, %d", s, code, e)
	}
}

func TestNothingSharesMemory(t *testing.T) {
	k := knots()["figure-eight knot"]
	code, _ := dowker.Of(k.d)
	overwrite(code)
	d, _ := dowker.Diagram(k.code)
	overwrite(d.Signs)
	if mates := d.Mate; slices.Contains(mates, 77) {
		t.Errorf("the signs share memory with the mates %v", mates)
	}
	overwrite(d.Mate)
	signs, _ := dowker.Signs(k.code)
	overwrite(signs)
	code, _ = dowker.Parse("4 6 8 2")
	overwrite(code)
	want := knots()["figure-eight knot"]
	if !diagram.Equal(k.d, want.d) || !slices.Equal(k.code, want.code) {
		t.Error("a result shares memory with an argument")
	}
	again, _ := dowker.Diagram(k.code)
	if signs, _ := dowker.Signs(k.code); !slices.Equal(signs, []int{1, -1, 1, -1}) || !slices.Equal(again.Signs, signs) {
		t.Errorf("the signs are %v and %v at a second call", signs, again.Signs)
	}
}

// overwrite changes all the memory that can be reached through a slice.
func overwrite(list []int) {
	list = list[:cap(list)]
	for i := range list {
		list[i] = 77
	}
}

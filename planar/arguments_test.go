package planar_test

import (
	"math"
	"slices"
	"strings"
	"testing"

	"unravel/api"
	"unravel/diagram"
	"unravel/planar"
)

var extremes = []int{math.MinInt, math.MinInt + 1, -1 << 32, -256, -65, -2, -1, 0, 1, 2, 3, 4, 64, 65, 255, 256, 257,
	1 << 32, 1<<61 + 1, math.MaxInt - 1, math.MaxInt}

// callAll calls every function of a diagram with it. Panics fail the test, and
// so does a call that runs on, by the time limit of go test.
func callAll(t *testing.T, d api.Diagram) {
	t.Helper()
	defer func() {
		if p := recover(); p != nil {
			t.Errorf("%v: panic: %v", d, p)
		}
	}()
	before := diagram.Clone(d)
	want := api.ErrArg
	if diagram.Valid(d) {
		want = api.OK
	}
	if text, e := planar.Format(d); e != want || (e == api.OK) != (text != "") {
		t.Errorf("%v: the text %q, %d", d, text, e)
	}
	if b, e := planar.Encode(d); e != want || (e == api.OK) != (b != nil) {
		t.Errorf("%v: the bytes %v, %d", d, b, e)
	}
	if !diagram.Equal(d, before) {
		t.Errorf("%v: was %v before the calls", d, before)
	}
}

func TestNoDiagramPanics(t *testing.T) {
	for _, s := range drawings() {
		callAll(t, s.d)
	}
	for _, d := range invalidDiagrams() {
		callAll(t, d)
	}
	for _, n := range extremes {
		callAll(t, diagramOf(nil, n))
		callAll(t, diagramOf([]int{n}, 0))
		for _, k := range extremes {
			callAll(t, diagramOf([]int{1}, 0, n, k, 3, 2))
			callAll(t, diagramOf([]int{n}, k, 1, 0, 3, 2))
			callAll(t, diagramOf([]int{n}, k, 3, 2, 1, 0))
			callAll(t, diagramOf(nil, k, n))
		}
	}
	callAll(t, diagramOf(make([]int, 1<<18), 0, make([]int, 1<<20)...))
	for h := range 12 {
		for _, n := range extremes {
			d := diagram.Clone(drawings()["trefoil"].d)
			d.Mate[h] = n
			callAll(t, d)
		}
	}
}

func TestNoTextPanics(t *testing.T) {
	pieces := []string{"+", "-", " ", "\n", "0", "1", "2", "+ 1 1 2 2\n", "- 1 2 2 1\n", "+ 3 4 3 4\n", "loops ", "loops 0\n", "\xff", "é"}
	for _, a := range pieces {
		for _, b := range pieces {
			compareText(t, a+b)
			checkRepeated(t, a+b)
			for _, c := range pieces {
				for _, d := range pieces {
					compareText(t, a+b+c+d)
				}
			}
		}
	}
}

func checkRepeated(t *testing.T, s string) {
	t.Helper()
	long := strings.Repeat(s, api.MaxText/len(s))
	if d, e := planar.Parse(long); e != api.ErrForm || !isZero(d) {
		t.Errorf("%q repeated: %v, %d", s, d, e)
	}
	if d, e := planar.Parse(long + s); e != api.ErrFull || !isZero(d) {
		t.Errorf("%q repeated too often: %v, %d", s, d, e)
	}
}

func TestNoBytesPanic(t *testing.T) {
	for n := range 256 {
		for _, value := range []byte{0, 1, 127, 255} {
			for length := range 150 {
				b := append([]byte{byte(n), value}, slices.Repeat([]byte{value}, length)...)
				compareBytes(t, b)
			}
		}
	}
	for _, b := range [][]byte{make([]byte, 1<<20), slices.Repeat([]byte{255}, 1<<20), slices.Repeat([]byte{1, 0}, 1<<20)} {
		if d, e := planar.Decode(b); e != api.ErrForm && e != api.ErrFull || !isZero(d) {
			t.Errorf("many bytes: %v, %d", d, e)
		}
	}
}

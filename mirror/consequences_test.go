package mirror_test

import (
	"slices"
	"strconv"
	"testing"

	"unravel/api"
	"unravel/diagram"
	"unravel/mirror"
)

type operation = func(api.Diagram) (api.Diagram, api.Errno)

// images lists the functions that concern a whole diagram, by names.
func images() map[string]operation {
	return map[string]operation{"Mirror": mirror.Mirror, "Reflect": mirror.Reflect, "Reverse": mirror.Reverse}
}

// undoing lists the operations that undo themselves and commute, by names.
func undoing(d api.Diagram) map[string]operation {
	all := images()
	for _, c := range []int{0, 1, len(d.Signs) / 2, len(d.Signs) - 1} {
		if 0 <= c && c < len(d.Signs) {
			all["Switch at "+strconv.Itoa(c)] = func(d api.Diagram) (api.Diagram, api.Errno) { return mirror.Switch(d, c) }
		}
	}
	return all
}

func both(t *testing.T, d api.Diagram, first, second operation) api.Diagram {
	t.Helper()
	between, e := first(d)
	if e != api.OK || !diagram.Valid(between) {
		t.Fatalf("%v: first %v, %d", d, between, e)
	}
	last, e := second(between)
	if e != api.OK || !diagram.Valid(last) {
		t.Fatalf("%v: then %v, %d", between, last, e)
	}
	return last
}

func TestImagesUndoThemselvesAndCommute(t *testing.T) {
	everyDiagram(func(d api.Diagram) {
		all := undoing(d)
		for name, first := range all {
			if got := both(t, d, first, first); !diagram.Equal(got, d) {
				t.Fatalf("%v: %s twice: %v", d, name, got)
			}
			for other, second := range all {
				a, b := both(t, d, first, second), both(t, d, second, first)
				if !diagram.Equal(a, b) {
					t.Fatalf("%v: %s and %s: %v and %v", d, name, other, a, b)
				}
			}
		}
	})
}

func TestMirrorSwitchesAllCrossings(t *testing.T) {
	for name, d := range samples() {
		want, _ := mirror.Mirror(d)
		got := d
		for c := range d.Signs {
			got, _ = mirror.Switch(got, c)
		}
		if !diagram.Equal(got, want) {
			t.Errorf("%s: %v, not %v", name, got, want)
		}
	}
}

// componentWith finds the strand that passes the crossing of h over or under, as
// h does. Its number can be another one after other strands were reversed.
func componentWith(d api.Diagram, h int) int {
	return slices.IndexFunc(diagram.Strands(d), func(strand []int) bool {
		return slices.ContainsFunc(strand, func(g int) bool { return g/4 == h/4 && g%2 == h%2 })
	})
}

func TestReversingAllComponentsIsReverse(t *testing.T) {
	everyDiagram(func(d api.Diagram) {
		want, _ := mirror.Reverse(d)
		got := d
		for _, strand := range diagram.Strands(d) {
			got, _ = mirror.ReverseOne(got, componentWith(got, strand[0]))
		}
		for k := range d.Loops {
			got, _ = mirror.ReverseOne(got, len(diagram.Strands(d))+k)
		}
		if !diagram.Equal(got, want) {
			t.Fatalf("%v: %v, not %v", d, got, want)
		}
	})
}

func TestReversingAComponentTwice(t *testing.T) {
	everyDiagram(func(d api.Diagram) {
		for k, strand := range diagram.Strands(d) {
			once, _ := mirror.ReverseOne(d, k)
			twice, e := mirror.ReverseOne(once, componentWith(once, strand[0]))
			if e != api.OK || !diagram.Equal(twice, d) {
				t.Fatalf("%v: the component %d: %v, %d", d, k, twice, e)
			}
		}
	})
}

func TestSmoothingDoesNotDependOnOver(t *testing.T) {
	everyDiagram(func(d api.Diagram) {
		for c := range d.Signs {
			other, _ := mirror.Switch(d, c)
			a, e := mirror.Smooth(d, c)
			b, f := mirror.Smooth(other, c)
			if e != f || !diagram.Equal(a, b) {
				t.Fatalf("%v at %d: %v, %d and %v, %d", d, c, a, e, b, f)
			}
		}
	})
}

func TestSmoothingChangesTheNumberOfComponentsByOne(t *testing.T) {
	everyDiagram(func(d api.Diagram) {
		for c := range d.Signs {
			want := diagram.Components(d) + 1
			if componentWith(d, 4*c) != componentWith(d, 4*c+1) {
				want -= 2
			}
			s, e := mirror.Smooth(d, c)
			if e == api.ErrFull {
				continue
			}
			if e != api.OK || !diagram.Valid(s) || diagram.Components(s) != want || len(s.Signs) != len(d.Signs)-1 {
				t.Fatalf("%v at %d: %v, %d has not %d components", d, c, s, e, want)
			}
		}
	})
}

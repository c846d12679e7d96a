package canon_test

import (
	"slices"
	"strconv"
	"strings"
	"testing"

	"unravel/api"
	"unravel/canon"
	"unravel/diagram"
	"unravel/example"
)

func TestCode(t *testing.T) {
	for name, s := range samples() {
		if code := canon.Code(s.d); !slices.Equal(code, s.code) {
			t.Errorf("%s: the code %v, not %v", name, code, s.code)
		}
	}
}

func TestKey(t *testing.T) {
	for _, c := range []struct {
		d    api.Diagram
		want string
	}{
		{api.Diagram{}, "0,0"},
		{example.Loops(64), "64,0"},
		{example.Kink(), "0,1,1,1,1,0,3,2"},
		{beside(example.NegativeKink(), example.Loops(10)), "10,1,1,-1,3,2,1,0"},
		{twisted(2, 1), "0,1,2,1,5,4,7,6,1,1,0,3,2"},
		{example.Trefoil(), "0,1,3,1,5,8,11,6,1,9,0,3,10,1,1,4,7,2"},
		{example.FigureEight(), "0,1,4,-1,5,10,9,12,1,11,0,15,14,-1,13,2,1,4,1,3,8,7,6"},
		{beside(twisted(2, -1), example.Kink()), "0,2,1,1,1,0,3,2,2,-1,7,6,5,4,-1,3,2,1,0"},
		{example.Loops(65), ""},
	} {
		if key := canon.Key(c.d); key != c.want {
			t.Errorf("%v: the key %q, not %q", c.d, key, c.want)
		}
	}
}

func TestKeyIsTheTextOfTheCode(t *testing.T) {
	for name, d := range everyDiagram() {
		var words []string
		for _, number := range canon.Code(d) {
			words = append(words, strconv.Itoa(number))
		}
		if key := canon.Key(d); key != strings.Join(words, ",") || key == "" {
			t.Errorf("%s: the key %q of the code %v", name, key, words)
		}
	}
}

func TestInvalidDiagramsHaveNoCode(t *testing.T) {
	for _, d := range example.Invalid() {
		if code, key := canon.Code(d), canon.Key(d); len(code) > 0 || key != "" {
			t.Errorf("%v: the code %v and the key %q", d, code, key)
		}
	}
}

// A numbering is what the definition says: crossings in the order of their
// numbers, and the code from the first of them.
type numbering struct{ order, code []int }

func numberingFrom(d api.Diagram, r int) numbering {
	var n numbering
	number := map[int]int{}
	give := func(c int) {
		if _, has := number[c]; !has {
			number[c] = len(n.order)
			n.order = append(n.order, c)
		}
	}
	give(r)
	for k := 0; k < len(n.order); k++ {
		for slot := range 4 {
			give(d.Mate[4*n.order[k]+slot] / 4)
		}
	}
	for _, c := range n.order {
		n.code = append(n.code, d.Signs[c])
		for slot := range 4 {
			mate := d.Mate[4*c+slot]
			n.code = append(n.code, 4*number[mate/4]+mate%4)
		}
	}
	return n
}

func less(a, b []int) bool { return slices.Compare(a, b) < 0 }

// leastNumberings lists, for each graph component in the order of the code, a
// numbering with the least code.
func leastNumberings(d api.Diagram) []numbering {
	var all []numbering
	for _, crossings := range diagram.Graph(d) {
		var least numbering
		for _, r := range crossings {
			if n := numberingFrom(d, r); least.code == nil || less(n.code, least.code) {
				least = n
			}
		}
		place := len(all)
		for place > 0 && comesBefore(least, all[place-1]) {
			place--
		}
		all = slices.Insert(all, place, least)
	}
	return all
}

func comesBefore(a, b numbering) bool {
	return len(a.order) < len(b.order) || len(a.order) == len(b.order) && less(a.code, b.code)
}

// compare checks the code and the form of a diagram by their definitions.
func compare(t *testing.T, d api.Diagram) {
	t.Helper()
	parts := leastNumberings(d)
	code, order := []int{d.Loops, len(parts)}, []int{}
	for _, n := range parts {
		code = append(append(code, len(n.order)), n.code...)
		order = append(order, n.order...)
	}
	if got := canon.Code(d); !slices.Equal(got, code) {
		t.Fatalf("%v: the code %v, not %v", d, got, code)
	}
	want := renumbered(d, order)
	if form, e := canon.Form(d); e != api.OK || !diagram.Equal(form, want) {
		t.Fatalf("%v: the form %v, %d, not %v", d, form, e, want)
	}
}

func TestCodesAndFormsByDefinition(t *testing.T) {
	for _, d := range everyDiagram() {
		for _, order := range orders(len(d.Signs)) {
			compare(t, renumbered(d, order))
		}
		compare(t, reversed(d))
		compare(t, reflected(d))
	}
	for n := range 4 {
		example.EverySmall(n, func(d api.Diagram) {
			for d.Loops = range 3 {
				compare(t, d)
			}
		})
	}
}

// TestCodesOfClosedBraids takes all words of six letters on three strands.
func TestCodesOfClosedBraids(t *testing.T) {
	for bits := range 1 << 12 {
		used, letters := map[int]bool{}, []int{}
		for i := range 6 {
			letter := []int{1, -1, 2, -2}[bits>>(2*i)&3]
			letters = append(letters, letter)
			used[max(letter, -letter)] = true
		}
		if len(used) == 2 {
			compare(t, closure(3, letters...))
		}
	}
}

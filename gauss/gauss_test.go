package gauss_test

import (
	"math"
	"slices"
	"testing"

	"unravel/api"
	"unravel/diagram"
	"unravel/gauss"
)

func TestOf(t *testing.T) {
	for name, s := range drawings() {
		if c, e := gauss.Of(s.d); e != api.OK || !equal(c, s.c) {
			t.Errorf("%s: the code %v, %d", name, c, e)
		}
	}
	for _, d := range invalidDiagrams() {
		if c, e := gauss.Of(d); e != api.ErrArg || !isZero(c) {
			t.Errorf("%v: the code %v, %d", d, c, e)
		}
	}
}

func TestOfFollowsTheStrands(t *testing.T) {
	for name, s := range drawings() {
		c, _ := gauss.Of(s.d)
		strands := diagram.Strands(s.d)
		if len(c.Comps) != len(strands) {
			t.Errorf("%s: %d sequences of %d strands", name, len(c.Comps), len(strands))
			continue
		}
		for i, strand := range strands {
			var visits []gauss.Visit
			for _, h := range strand {
				visits = append(visits, gauss.Visit{Crossing: h / 4, Over: h%4 == 1 || h%4 == 3})
			}
			if !slices.Equal(c.Comps[i], visits) {
				t.Errorf("%s: the visits %v of the strand %v", name, c.Comps[i], strand)
			}
		}
	}
}

func TestDiagram(t *testing.T) {
	for name, s := range drawings() {
		if d, e := gauss.Diagram(s.c); e != api.OK || !diagram.Equal(d, s.d) {
			t.Errorf("%s: the diagram %v, %d", name, d, e)
		}
	}
}

// A diagram does not show where its sequences begin, nor their order.
func TestDiagramOfOtherBeginnings(t *testing.T) {
	for name, s := range drawings() {
		c := clone(s.c)
		slices.Reverse(c.Comps)
		for i, comp := range c.Comps {
			for shift := range min(len(comp), 5) {
				c.Comps[i] = slices.Concat(comp[shift:], comp[:shift])
				if d, e := gauss.Diagram(c); e != api.OK || !diagram.Equal(d, s.d) {
					t.Errorf("%s: the diagram %v, %d of %v", name, d, e, c)
				}
			}
		}
	}
}

func TestDiagramErrors(t *testing.T) {
	for name, c := range invalidCodes() {
		if d, e := gauss.Diagram(c); e != api.ErrArg || !diagram.Equal(d, api.Diagram{}) {
			t.Errorf("%s: the diagram %v, %d", name, d, e)
		}
	}
	for _, g := range genera() {
		if d, e := gauss.Diagram(g.c); g.want != 0 && (e != api.ErrGenus || !diagram.Equal(d, api.Diagram{})) {
			t.Errorf("%v: the diagram %v, %d", g.c, d, e)
		}
	}
}

func TestValid(t *testing.T) {
	for name, s := range drawings() {
		if !gauss.Valid(s.c) {
			t.Errorf("%s: not valid", name)
		}
	}
	for _, g := range genera() {
		if !gauss.Valid(g.c) {
			t.Errorf("%v: not valid", g.c)
		}
	}
	for name, c := range invalidCodes() {
		if gauss.Valid(c) {
			t.Errorf("%s: valid", name)
		}
	}
}

// All sequences of up to four visits, cut in all ways, with few signs.
func TestValidForAllShortCodes(t *testing.T) {
	for _, signs := range [][]int{nil, {1}, {-1}, {0}, {2}, {1, -1}, {-1, -1}, {1, 0}} {
		count := 0
		for length := range 5 {
			eachSequence(length, func(visits []gauss.Visit) {
				eachCut(visits, func(comps [][]gauss.Visit) {
					c := gauss.Code{Comps: comps, Signs: signs}
					want := validByCounting(c)
					if gauss.Valid(c) != want {
						t.Fatalf("%v: Valid is not %t", c, want)
					}
					if want {
						count++
					}
				})
			})
		}
		want := map[int]int{0: 1, 1: 4, 2: 192}[len(signs)]
		if slices.ContainsFunc(signs, func(sign int) bool { return sign*sign != 1 }) {
			want = 0
		}
		if count != want {
			t.Errorf("%v: %d valid codes, not %d", signs, count, want)
		}
	}
}

func eachSequence(length int, visit func([]gauss.Visit)) {
	visits := make([]gauss.Visit, length)
	var fill func(int)
	fill = func(i int) {
		if i == length {
			visit(visits)
			return
		}
		for crossing := -1; crossing <= 2; crossing++ {
			for _, over := range []bool{false, true} {
				visits[i] = gauss.Visit{Crossing: crossing, Over: over}
				fill(i + 1)
			}
		}
	}
	fill(0)
}

func eachCut(visits []gauss.Visit, visit func([][]gauss.Visit)) {
	if len(visits) == 0 {
		visit(nil)
		return
	}
	for cuts := range 1 << (len(visits) - 1) {
		var comps [][]gauss.Visit
		first := 0
		for i := 1; i <= len(visits); i++ {
			if i == len(visits) || cuts>>(i-1)&1 == 1 {
				comps = append(comps, visits[first:i])
				first = i
			}
		}
		visit(comps)
	}
}

func validByCounting(c gauss.Code) bool {
	counts := map[gauss.Visit]int{}
	for _, comp := range c.Comps {
		for _, v := range comp {
			counts[v]++
		}
	}
	for crossing, sign := range c.Signs {
		if sign != 1 && sign != -1 || counts[over(crossing)] != 1 || counts[under(crossing)] != 1 {
			return false
		}
	}
	return len(counts) == 2*len(c.Signs)
}

// With an error, the first one named is returned, and zero values beside it.
func TestErrorsOfInvalidCodes(t *testing.T) {
	for name, c := range invalidCodes() {
		if g, e := gauss.Genus(c); e != api.ErrArg || g != 0 {
			t.Errorf("%s: the genus %d, %d", name, g, e)
		}
		if s, e := gauss.Format(c); e != api.ErrArg || s != "" {
			t.Errorf("%s: the text %q, %d", name, s, e)
		}
	}
}

func TestNothingSharesMemory(t *testing.T) {
	s := drawings()["trefoil, kink, and loops"]
	c, _ := gauss.Of(s.d)
	overwriteCode(t, c)
	d, _ := gauss.Diagram(s.c)
	for _, list := range [][]int{d.Signs, d.Mate} {
		overwrite(list)
	}
	c, _ = gauss.Parse(s.s)
	overwriteCode(t, c)
	if want := drawings()["trefoil, kink, and loops"]; !diagram.Equal(s.d, want.d) || !equal(s.c, want.c) {
		t.Error("a result shares memory with an argument")
	}
}

// overwriteCode also checks that the sequences share no memory with each other.
func overwriteCode(t *testing.T, c gauss.Code) {
	overwrite(c.Signs)
	for i, comp := range c.Comps {
		room := comp[:cap(comp)]
		for k := range room {
			room[k] = gauss.Visit{Crossing: math.MinInt}
		}
		for _, later := range c.Comps[i+1:] {
			if slices.Contains(later, gauss.Visit{Crossing: math.MinInt}) {
				t.Error("two sequences share memory")
			}
		}
	}
}

// overwrite changes all the memory that can be reached through a slice.
func overwrite(list []int) {
	list = list[:cap(list)]
	for i := range list {
		list[i] = 77
	}
}

package mirror_test

import (
	"slices"
	"testing"

	"unravel/api"
	"unravel/diagram"
	"unravel/example"
	"unravel/gauss"
	"unravel/mirror"
)

// The operations are compared with changes of Gauss codes (2), which know
// nothing of slots: a diagram is determined by the visits of its strands, over
// or under, and by the signs.

func codeOf(d api.Diagram) gauss.Code {
	c, e := gauss.Of(d)
	if e != api.OK {
		panic("codeOf")
	}
	return c
}

func negate(signs []int) {
	for i := range signs {
		signs[i] = -signs[i]
	}
}

func exchange(c gauss.Code, wanted func(crossing int) bool) {
	for _, comp := range c.Comps {
		for i := range comp {
			if wanted(comp[i].Crossing) {
				comp[i].Over = !comp[i].Over
			}
		}
	}
}

func modelMirror(d api.Diagram) api.Diagram {
	c := codeOf(d)
	exchange(c, func(int) bool { return true })
	negate(c.Signs)
	return example.Drawn(c)
}

func modelReflect(d api.Diagram) api.Diagram {
	c := codeOf(d)
	negate(c.Signs)
	return example.Drawn(c)
}

func modelReverse(d api.Diagram) api.Diagram {
	c := codeOf(d)
	for _, comp := range c.Comps {
		slices.Reverse(comp)
	}
	return example.Drawn(c)
}

// modelReverseOne changes a sign for each visit: twice where the component
// crosses itself.
func modelReverseOne(d api.Diagram, component int) api.Diagram {
	c := codeOf(d)
	if component < len(c.Comps) {
		slices.Reverse(c.Comps[component])
		for _, v := range c.Comps[component] {
			c.Signs[v.Crossing] = -c.Signs[v.Crossing]
		}
	}
	return example.Drawn(c)
}

func modelSwitch(d api.Diagram, crossing int) api.Diagram {
	c := codeOf(d)
	exchange(c, func(k int) bool { return k == crossing })
	c.Signs[crossing] = -c.Signs[crossing]
	return example.Drawn(c)
}

// modelSmooth also reports whether there are not too many loops.
func modelSmooth(d api.Diagram, crossing int) (api.Diagram, bool) {
	c := codeOf(d)
	s := gauss.Code{Signs: slices.Delete(c.Signs, crossing, crossing+1), Loops: c.Loops}
	keep := func(comp []gauss.Visit) {
		for i := range comp {
			if comp[i].Crossing > crossing {
				comp[i].Crossing--
			}
		}
		if len(comp) == 0 {
			s.Loops++
		} else {
			s.Comps = append(s.Comps, comp)
		}
	}
	var open [][]gauss.Visit // the pieces of components between the visits of the crossing
	for _, comp := range c.Comps {
		pieces := cutAt(comp, crossing)
		switch len(pieces) {
		case 0:
			keep(comp)
		case 1:
			open = append(open, pieces[0])
		case 2:
			keep(pieces[0])
			keep(pieces[1])
		}
	}
	if len(open) == 2 {
		keep(slices.Concat(open[0], open[1]))
	}
	if s.Loops > api.MaxLoops {
		return api.Diagram{}, false
	}
	return example.Drawn(s), true
}

// cutAt cuts a cyclic sequence at the visits of a crossing, which it drops.
func cutAt(comp []gauss.Visit, crossing int) [][]gauss.Visit {
	at := func(v gauss.Visit) bool { return v.Crossing == crossing }
	first := slices.IndexFunc(comp, at)
	if first < 0 {
		return nil
	}
	rest := slices.Concat(comp[first+1:], comp[:first])
	second := slices.IndexFunc(rest, at)
	if second < 0 {
		return [][]gauss.Visit{rest}
	}
	return [][]gauss.Visit{rest[:second], rest[second+1:]}
}

// expect compares a result without an error.
func expect(t *testing.T, what string, d, got api.Diagram, e api.Errno, want api.Diagram) {
	t.Helper()
	if e != api.OK || !diagram.Equal(got, want) || !diagram.Valid(got) {
		t.Fatalf("%s of %v: %v, %d, not %v", what, d, got, e, want)
	}
}

func TestImagesAsByCodes(t *testing.T) {
	everyDiagram(func(d api.Diagram) {
		got, e := mirror.Mirror(d)
		expect(t, "Mirror", d, got, e, modelMirror(d))
		got, e = mirror.Reflect(d)
		expect(t, "Reflect", d, got, e, modelReflect(d))
		got, e = mirror.Reverse(d)
		expect(t, "Reverse", d, got, e, modelReverse(d))
	})
}

func TestReverseOneAsByCodes(t *testing.T) {
	everyDiagram(func(d api.Diagram) {
		for k := range diagram.Components(d) {
			got, e := mirror.ReverseOne(d, k)
			expect(t, "ReverseOne", d, got, e, modelReverseOne(d, k))
		}
	})
}

func TestSwitchAsByCodes(t *testing.T) {
	everyDiagram(func(d api.Diagram) {
		for c := range d.Signs {
			got, e := mirror.Switch(d, c)
			expect(t, "Switch", d, got, e, modelSwitch(d, c))
		}
	})
}

func TestSmoothAsByCodes(t *testing.T) {
	check := func(d api.Diagram) {
		t.Helper()
		for c := range d.Signs {
			got, e := mirror.Smooth(d, c)
			if want, fits := modelSmooth(d, c); fits {
				expect(t, "Smooth", d, got, e, want)
			} else if e != api.ErrFull || !example.IsZero(got) {
				t.Fatalf("Smooth of %v at %d: %v, %d", d, c, got, e)
			}
		}
	}
	everyDiagram(check)
	everyDiagram(func(d api.Diagram) {
		for missing := range 3 {
			check(example.WithLoops(d, api.MaxLoops-missing))
		}
	})
}

// TestSmoothAllAsByCodes smooths a large diagram until nothing is left, at
// crossings that are chosen by a step.
func TestSmoothAllAsByCodes(t *testing.T) {
	for name, d := range samples() {
		for _, step := range []int{0, 1, 5, 11} {
			rest := example.WithLoops(d, 0)
			for k := 0; len(rest.Signs) > 0; k += step {
				c := k % len(rest.Signs)
				want, fits := modelSmooth(rest, c)
				got, e := mirror.Smooth(rest, c)
				if !fits {
					if e != api.ErrFull || !example.IsZero(got) {
						t.Fatalf("%s: %v, %d", name, got, e)
					}
					break
				}
				expect(t, "Smooth", rest, got, e, want)
				rest = got
			}
		}
	}
}

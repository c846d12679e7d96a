package planar_test

import (
	"regexp"
	"strconv"
	"strings"
	"testing"

	"unravel/api"
	"unravel/diagram"
	"unravel/planar"
)

var (
	form     = regexp.MustCompile(`\A([+-]( [1-9][0-9]{0,3}){4}\n)*loops (0|[1-9][0-9]{0,2})\n\z`)
	crossing = regexp.MustCompile(`([+-]) (\d+) (\d+) (\d+) (\d+)`)
	loops    = regexp.MustCompile(`loops (\d+)`)
)

// readText reads planar codes in another way.
func readText(s string) (api.Diagram, api.Errno) {
	if len(s) > 65536 {
		return api.Diagram{}, api.ErrFull
	}
	if !form.MatchString(s) {
		return api.Diagram{}, api.ErrForm
	}
	var d api.Diagram
	var labels []string
	for _, words := range crossing.FindAllStringSubmatch(s, -1) {
		sign, _ := strconv.Atoi(words[1] + "1")
		d.Signs = append(d.Signs, sign)
		labels = append(labels, words[2:]...)
	}
	d.Loops, _ = strconv.Atoi(loops.FindStringSubmatch(s)[1])
	if len(d.Signs) > 64 || d.Loops > 64 {
		return api.Diagram{}, api.ErrFull
	}
	for h, label := range labels {
		ends := 0
		for g, other := range labels {
			if other != label {
				continue
			}
			ends++
			if goesOut(d.Signs, g) != goesOut(d.Signs, h) {
				d.Mate = append(d.Mate, g)
			}
		}
		if ends != 2 || len(d.Mate) != h+1 {
			return api.Diagram{}, api.ErrForm
		}
	}
	return sphereOrError(d)
}

// readBytes reads binary forms in another way.
func readBytes(b []byte) (api.Diagram, api.Errno) {
	if len(b) < 2 {
		return api.Diagram{}, api.ErrEnd
	}
	n := int(b[0])
	if n > 64 || b[1] > 64 {
		return api.Diagram{}, api.ErrFull
	}
	bits := ""
	for i := 2; len(bits) < n; i++ {
		if i >= len(b) {
			return api.Diagram{}, api.ErrEnd
		}
		for bit := range 8 {
			bits += strconv.Itoa(int(b[i]) / []int{1, 2, 4, 8, 16, 32, 64, 128}[bit] % 2)
		}
	}
	mates := b[2+len(bits)/8:]
	if len(mates) < 2*n {
		return api.Diagram{}, api.ErrEnd
	}
	if len(mates) > 2*n || strings.Contains(bits[n:], "1") {
		return api.Diagram{}, api.ErrForm
	}
	d := api.Diagram{Loops: int(b[1]), Mate: make([]int, 4*n)}
	for c := range n {
		d.Signs = append(d.Signs, map[byte]int{'1': 1, '0': -1}[bits[c]])
	}
	for h := range d.Mate {
		d.Mate[h] = -1
	}
	for h := range d.Mate {
		if goesOut(d.Signs, h) {
			in := int(mates[0])
			mates = mates[1:]
			if in >= 4*n || goesOut(d.Signs, in) || d.Mate[in] != -1 {
				return api.Diagram{}, api.ErrForm
			}
			d.Mate[h], d.Mate[in] = in, h
		}
	}
	return sphereOrError(d)
}

func goesOut(signs []int, h int) bool {
	return h%4 == 2 || h%4 == 2-signs[h/4]
}

// sphereOrError takes diagrams whose mates are right. It counts the faces as
// classes of corners, and the graph components as classes of crossings.
func sphereOrError(d api.Diagram) (api.Diagram, api.Errno) {
	corners, parts := newClasses(len(d.Mate)), newClasses(len(d.Signs))
	for h, mate := range d.Mate {
		parts.merge(h/4, mate/4)
		corners.merge(h, mate/4*4+(mate+3)%4)
	}
	if corners.count != len(d.Signs)+2*parts.count {
		return api.Diagram{}, api.ErrGenus
	}
	return d, api.OK
}

type classes struct {
	of    []int
	count int
}

func newClasses(n int) *classes {
	c := &classes{count: n}
	for i := range n {
		c.of = append(c.of, i)
	}
	return c
}

func (c *classes) merge(a, b int) {
	from, to := c.of[a], c.of[b]
	if from == to {
		return
	}
	c.count--
	for i, class := range c.of {
		if class == from {
			c.of[i] = to
		}
	}
}

// compareText parses a text, and compares the result with that of readText.
func compareText(t *testing.T, s string) api.Errno {
	t.Helper()
	d, e := planar.Parse(s)
	want, wantE := readText(s)
	if e != wantE || !diagram.Equal(d, want) {
		t.Errorf("%.300q: %v, %d, not %v, %d", s, d, e, want, wantE)
	}
	if e == api.OK && !diagram.Valid(d) {
		t.Errorf("%.300q: the diagram %v is not valid", s, d)
	}
	return e
}

// compareBytes decodes bytes, and compares the result with that of readBytes.
func compareBytes(t *testing.T, b []byte) api.Errno {
	t.Helper()
	before := string(b)
	d, e := planar.Decode(b)
	want, wantE := readBytes(b)
	if e != wantE || !diagram.Equal(d, want) {
		t.Errorf("%.300v: %v, %d, not %v, %d", b, d, e, want, wantE)
	}
	if again, f := planar.Encode(d); e == api.OK && (f != api.OK || string(again) != before) {
		t.Errorf("%.300v: the bytes %v, %d of its diagram", b, again, f)
	}
	if string(b) != before {
		t.Errorf("%.300q: changed to %v", before, b)
	}
	return e
}

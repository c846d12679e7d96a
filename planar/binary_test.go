package planar_test

import (
	"bytes"
	"maps"
	"slices"
	"testing"

	"unravel/api"
	"unravel/diagram"
	"unravel/planar"
)

func TestEncode(t *testing.T) {
	for name, s := range drawings() {
		if b, e := planar.Encode(s.d); e != api.OK || !bytes.Equal(b, s.bytes) {
			t.Errorf("%s: the bytes %v, %d", name, b, e)
		}
	}
	for _, d := range invalidDiagrams() {
		if b, e := planar.Encode(d); e != api.ErrArg || b != nil {
			t.Errorf("%v: the bytes %v, %d", d, b, e)
		}
	}
}

func TestEncodeHasTheLengthOfTheForm(t *testing.T) {
	for n := range api.MaxCrossings + 1 {
		b, e := planar.Encode(kinks(slices.Repeat([]int{1}, n), 0).d)
		bits := 0
		for 8*bits < n {
			bits++
		}
		if e != api.OK || len(b) != 2+bits+2*n {
			t.Errorf("%d crossings: %d bytes, %d", n, len(b), e)
		}
	}
}

func TestDecode(t *testing.T) {
	for name, s := range drawings() {
		if d, e := planar.Decode(s.bytes); e != api.OK || !diagram.Equal(d, s.d) {
			t.Errorf("%s: the diagram %v, %d", name, d, e)
		}
	}
}

// badBytes lists bytes that describe no diagram, by their errors. Most of them
// have the faults that are named later, too.
func badBytes() map[api.Errno]map[string][][]byte {
	ff := func(n int) []byte { return slices.Repeat([]byte{255}, n) }
	zeros := func(n int) []byte { return make([]byte, n) }
	limits := drawings()["positive kinks, all limits"].bytes
	with := func(i int, value byte) []byte {
		b := slices.Clone(limits)
		b[i] = value
		return b
	}
	crossed := func(i int) []byte {
		b := slices.Clone(limits)
		b[i], b[i+1] = b[i+1], b[i]
		return b
	}
	return map[api.Errno]map[string][][]byte{
		api.ErrEnd: {
			"fewer than two":  {nil, {}, {0}, {1}, {64}, {65}, {255}},
			"no signs":        {{1, 0}, {1, 64}, {3, 0}, {8, 0}, {9, 0}, {64, 0}, {64, 64}},
			"too few signs":   {{9, 0, 255}, {64, 0, 255}, {17, 0, 255, 255}, {64, 64, 1, 2, 3, 4, 5, 6, 7}},
			"no mates":        {{1, 0, 1}, {1, 0, 0}, {8, 0, 255}, {9, 0, 255, 1}, {64, 64, 1, 2, 3, 4, 5, 6, 7, 8}},
			"too few mates":   {{1, 0, 1, 0}, {3, 0, 7, 4, 7, 8, 11, 0}, {2, 0, 3, 4, 7, 0}, limits[:len(limits)-1], limits[:len(limits)-64]},
			"unused bit, too": {{1, 0, 3}, {1, 0, 255, 0}, {9, 0, 255, 255, 1, 2}},
			"wrong mate, too": {{1, 0, 1, 255}, {1, 0, 1, 1}, {2, 0, 3, 4, 4, 4}, {1, 0, 1, 3}},
		},
		api.ErrFull: {
			"too many crossings":             {{65, 0}, {65, 64}, {128, 0}, {255, 0}, {129, 1}},
			"too many loops":                 {{0, 65}, {0, 255}, {0, 128}, {0, 66}, {1, 65, 1, 0, 3}, {64, 65}, with(1, 65)},
			"too many crossings and loops":   {{65, 65}, {255, 255}, ff(1000)},
			"too short, too":                 {{1, 65}, {1, 65, 1}, {65, 0, 1}, {64, 255, 1}},
			"too long, too":                  {{0, 65, 0}, {0, 255, 255, 255}, append([]byte{65, 0}, zeros(139)...), {1, 65, 1, 0, 3, 0}},
			"all bytes of too many":          {append([]byte{65, 0}, append(ff(8), zeros(131)...)...), kinks(slices.Repeat([]int{-1}, 65), 0, zeros(9)...).bytes},
			"unused bit or wrong mates, too": {{1, 65, 2, 0, 3}, {1, 65, 1, 0, 0}, {1, 65, 1, 3, 0}},
		},
		api.ErrForm: {
			"too long": {{0, 0, 0}, {0, 64, 0}, {0, 0, 255, 255}, {1, 0, 1, 0, 3, 0}, {1, 0, 1, 0, 3, 0, 3}, {3, 0, 7, 4, 7, 8, 11, 0, 3, 0},
				append(slices.Clone(limits), 0), append([]byte{0, 0}, zeros(100000)...)},
			"unused bit": {{1, 0, 3, 0, 3}, {1, 0, 0b101, 0, 3}, {1, 0, 129, 0, 3}, {1, 0, 255, 0, 3}, {1, 0, 2, 1, 0}, {1, 0, 128, 1, 0}, {3, 0, 15, 4, 7, 8, 11, 0, 3},
				{2, 0, 7, 4, 7, 0, 3}, {3, 0, 8, 5, 4, 9, 8, 1, 0}},
			"mate that is outgoing": {{1, 0, 1, 1, 3}, {1, 0, 1, 2, 3}, {1, 0, 1, 0, 1}, {1, 0, 1, 0, 2}, {1, 0, 1, 2, 1}, {1, 0, 0, 3, 0}, {1, 0, 0, 1, 2}, {1, 0, 0, 0, 3}, with(10, 1), with(10, 254)},
			"mate that is no half-edge": {{1, 0, 1, 4, 3}, {1, 0, 1, 0, 4}, {1, 0, 1, 0, 7}, {1, 0, 1, 0, 255}, {1, 0, 1, 255, 3}, {3, 0, 7, 12, 7, 8, 11, 0, 3}, {2, 0, 3, 4, 7, 0, 8},
				{1, 0, 0, 5, 0}, {1, 0, 0, 1, 4}},
			"mate that occurs twice": {{1, 0, 1, 0, 0}, {1, 0, 1, 3, 3}, {1, 0, 0, 1, 1}, {1, 0, 0, 0, 0}, {2, 0, 3, 4, 7, 0, 4}, {3, 0, 7, 4, 7, 8, 11, 0, 11}, with(10, 3), with(137, 0)},
			"genus 1, too":           {{1, 0, 1, 3, 0, 0}, {1, 0, 3, 3, 0}, {2, 0, 3, 3, 0, 4, 4}, {2, 0, 3, 3, 0, 4, 5}, {2, 0, 3, 0, 0, 7, 4}},
		},
		api.ErrGenus: {
			"genus 1":         {{1, 0, 1, 3, 0}, {1, 64, 1, 3, 0}, {1, 0, 0, 0, 1}, {2, 0, 3, 7, 0, 4, 3}},
			"beside a sphere": {{2, 0, 3, 3, 0, 4, 7}, {2, 0, 3, 0, 3, 7, 4}, {2, 0, 0, 0, 1, 5, 4}},
			"genus 1 twice":   {{2, 0, 3, 3, 0, 7, 4}},
			"at the limits":   {crossed(10), crossed(len(limits) - 2)},
		},
	}
}

func TestDecodeErrors(t *testing.T) {
	for want, faults := range badBytes() {
		for fault, list := range faults {
			for _, b := range list {
				if d, e := planar.Decode(b); e != want || !isZero(d) {
					t.Errorf("%s: %.100v yields %v, %d, not %d", fault, b, d, e, want)
				}
				compareBytes(t, b)
			}
		}
	}
}

func TestDecodeOfBytesCutShort(t *testing.T) {
	for name, s := range drawings() {
		for i := range s.bytes {
			if d, e := planar.Decode(s.bytes[:i]); e != api.ErrEnd || !isZero(d) {
				t.Errorf("%s, the first %d bytes: %v, %d", name, i, d, e)
			}
			compareBytes(t, s.bytes[i:])
		}
		for _, extra := range []byte{0, 1, 255} {
			if d, e := planar.Decode(append(slices.Clone(s.bytes), extra)); e != api.ErrForm || !isZero(d) {
				t.Errorf("%s, and %d: %v, %d", name, extra, d, e)
			}
		}
	}
}

func TestDecodeOfChangedBytes(t *testing.T) {
	met := map[api.Errno]int{}
	for _, s := range drawings() {
		for i := range s.bytes {
			b := slices.Clone(s.bytes)
			step := 1
			if len(b) > 40 {
				step = 15
			}
			for value := 0; value < 256; value += step {
				b[i] = byte(value)
				met[compareBytes(t, b)]++
			}
		}
	}
	if keys := slices.Sorted(maps.Keys(met)); !slices.Equal(keys, []api.Errno{api.OK, api.ErrForm, api.ErrEnd, api.ErrFull}) {
		t.Errorf("the results %v", met)
	}
}

func TestDecodeOfExchangedMates(t *testing.T) {
	met := map[api.Errno]int{}
	for _, s := range drawings() {
		mates := 2 + (len(s.d.Signs)+7)/8
		for i := mates; i < min(len(s.bytes), 40); i++ {
			for k := mates; k < i; k++ {
				b := slices.Clone(s.bytes)
				b[i], b[k] = b[k], b[i]
				met[compareBytes(t, b)]++
			}
		}
	}
	if met[api.OK] == 0 || met[api.ErrGenus] == 0 || len(met) != 2 {
		t.Errorf("the results %v", met)
	}
}

// All bytes of some lengths, with few values.
func TestDecodeOfAllShortBytes(t *testing.T) {
	met := map[api.Errno]int{}
	for length := range 8 {
		b := make([]byte, length)
		var fill func(int)
		fill = func(i int) {
			if i == length {
				met[compareBytes(t, b)]++
				return
			}
			for _, value := range []byte{0, 1, 3, 4, 5, 7, 64} {
				b[i] = value
				fill(i + 1)
			}
		}
		if length < 7 {
			fill(0)
			continue
		}
		b[0], b[1] = 2, 0
		fill(2)
	}
	if len(met) != 4 || met[api.OK] == 0 || met[api.ErrGenus] == 0 {
		t.Errorf("the results %v", met)
	}
}

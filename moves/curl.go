package moves

import (
	"unravel/api"
	"unravel/diagram"
)

func curled(d api.Diagram, m api.Move) api.Diagram {
	under := len(d.Mate)
	over := diagram.Turn(under, -m.Sign)
	in0, in1 := under, over
	if m.Over {
		in0, in1 = over, under
	}
	r := grown(d, m.Sign)
	join(r, diagram.Opposite(in0), in1)
	thread(&r, m.X, in0, diagram.Opposite(in1))
	return r
}

// endOfKink returns the half-edge at which a kink goes out of its crossing.
func endOfKink(d api.Diagram, c int) (out int, found bool) {
	for _, out := range [...]int{4*c + 2, diagram.Turn(4*c, d.Signs[c])} {
		if d.Mate[out]/4 == c {
			return out, true
		}
	}
	return 0, false
}

func endsAroundKink(d api.Diagram, c int) (in0, out1 int) {
	out, _ := endOfKink(d, c)
	return diagram.Opposite(out), diagram.Opposite(d.Mate[out])
}

func uncurled(d api.Diagram, c int) api.Diagram {
	in0, out1 := endsAroundKink(d, c)
	r := diagram.Clone(d)
	closeStrand(&r, in0, out1)
	return without(r, c)
}

func curlBack(d api.Diagram, c int) api.Move {
	in0, out1 := endsAroundKink(d, c)
	back := api.Move{Kind: api.Curl, X: loopAlong, Sign: d.Signs[c], Over: in0%2 == 1}
	if d.Mate[in0] != out1 {
		back.X = renumbered(d.Mate[in0], c)
	}
	return back
}

package nest

import "pantoscope/api"

// A grid are the boxes of a part in rows: the first place, the steps to the next ones, and how many there are.
type grid struct {
	first, step api.XY
	across, up  int
}

func gridOf(b api.Board, p api.Part) grid {
	box := around(p.O)
	return grid{
		first:  api.XY{X: -box.X, Y: -box.Y},
		step:   api.XY{X: box.W + b.Gap, Y: box.H + b.Gap},
		across: boxes(b.W, box.W, b.Gap),
		up:     boxes(b.H, box.H, b.Gap),
	}
}

// boxes counts the boxes of one length, with a gap between them, that lie within a whole.
func boxes(whole, length, gap int) int {
	return (whole + gap) / (length + gap)
}

// rows are the first places of a grid that are beside all faults.
func rows(b api.Board, parts []api.Part, part int, g grid) []api.Place {
	var l []api.Place
	for i := range g.across * g.up {
		k, m := i%g.across, i/g.across
		p := api.Place{Part: part, X: g.first.X + k*g.step.X, Y: g.first.Y + m*g.step.Y}
		if isBeside(b, lying(parts, p)) {
			l = append(l, p)
		}
		if len(l) == maxPlaces {
			break
		}
	}
	return l
}

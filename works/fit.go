package works

import (
	"slices"
	"strconv"

	"pantoscope/api"
	"pantoscope/sample"
	"pantoscope/temple"
)

// arrival is a temple that comes to the stock.
type arrival struct {
	temple api.Temple
}

func (s *shop) planTemple(a asked) (change, api.Errno) {
	t := api.Temple{Number: a.numbers[0], Side: sideOf(a.text), Length: a.numbers[1], Colour: a.numbers[2]}
	if !temple.Valid([]api.Temple{t}) {
		return nil, api.ErrTemple
	}
	if _, there := s.temples[t.Number]; there {
		return nil, api.ErrThere
	}
	if len(s.stock) == api.MaxTemples {
		return nil, api.ErrLimit
	}
	return arrival{temple: t}, api.OK
}

func sideOf(word string) int {
	if word == "L" {
		return api.SideLeft
	}
	return api.SideRight
}

func (c arrival) apply(s *shop) string {
	s.temples[c.temple.Number] = c.temple
	s.stock = append(s.stock, c.temple.Number)
	slices.Sort(s.stock)
	return done
}

// fitting are frames that get temples.
type fitting []fitted

// fitted is a frame with its temples, by their Numbers.
type fitted struct {
	frame, left, right int
}

func (s *shop) planFit(asked) (change, api.Errno) {
	stock := s.inStock()
	pairs, err := temple.Match(stock, s.setup.Tol)
	if err != api.OK {
		return nil, err
	}
	var c fitting
	for i, f := range s.framesIn(api.FramePolished) {
		if i == len(pairs) {
			break
		}
		c = append(c, fitted{frame: f.Number, left: stock[pairs[i][0]].Number, right: stock[pairs[i][1]].Number})
	}
	return c, api.OK
}

func (c fitting) apply(s *shop) string {
	for _, g := range c {
		f := s.frame(g.frame)
		f.Left, f.Right, f.State = g.left, g.right, api.FrameReady
		s.stock = slices.DeleteFunc(s.stock, func(n int) bool { return n == g.left || n == g.right })
	}
	return strconv.Itoa(len(c))
}

// inspection is a lot that is inspected, with the Numbers of the frames that were found bad.
type inspection struct {
	bad      []int
	accepted bool
}

func (s *shop) planInspect(a asked) (change, api.Errno) {
	state, err := sample.State(s.setup.Scheme, s.found)
	if err != api.OK {
		return nil, err
	}
	if state == api.InspectStopped {
		return nil, api.ErrStopped
	}
	if len(s.found) == api.MaxLots {
		return nil, api.ErrLimit
	}
	ready := s.framesIn(api.FrameReady)
	if !within(len(ready), 1, api.MaxLot) {
		return nil, api.ErrStock
	}
	plan := s.planOf(state)
	drawn, err := sample.Draw(a.numbers[0], len(ready), min(plan.Sample, len(ready)))
	if err != api.OK {
		return nil, err
	}
	var bad []int
	for _, i := range drawn {
		if s.isBad(ready[i]) {
			bad = append(bad, ready[i].Number)
		}
	}
	accepted, err := sample.Accepted(plan, len(bad))
	return inspection{bad: bad, accepted: accepted}, err
}

// planOf is the plan of a state in which lots are inspected.
func (s *shop) planOf(state int) api.Plan {
	switch state {
	case api.InspectTight:
		return s.setup.Scheme.Tight
	case api.InspectReduced:
		return s.setup.Scheme.Reduced
	}
	return s.setup.Scheme.Normal
}

// isBad tells whether the lengths of a frame's temples differ too much.
func (s *shop) isBad(f api.Frame) bool {
	d := s.temples[f.Left].Length - s.temples[f.Right].Length
	return max(d, -d) > s.setup.Tol/2
}

func (c inspection) apply(s *shop) string {
	s.found = append(s.found, len(c.bad))
	verdict := "accepted "
	if !c.accepted {
		verdict = "refused "
		for _, n := range c.bad {
			f := s.frame(n)
			f.Left, f.Right, f.State = 0, 0, api.FramePolished
		}
	}
	return verdict + strconv.Itoa(len(c.bad))
}

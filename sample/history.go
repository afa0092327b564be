package sample

import "pantoscope/api"

// How many lots lead from one state to another.
const (
	windowOfNormal  = 5  // of so many lots ..
	refusedToTight  = 2  // .. so many refused ones tighten
	passedToReduced = 10 // so many accepted ones in a row
	passedToNormal  = 5  // so many accepted ones in a row
	refusedToStop   = 5
)

// inspection is a scheme with its state, and with the lots inspected since this state was entered: accepted or not.
type inspection struct {
	api.Scheme
	state int
	lots  []bool
}

// History returns how each lot was inspected, and the state behind the last one.
func History(s api.Scheme, found []int) ([]api.Inspected, int, api.Errno) {
	return run(s, api.InspectNormal, found)
}

// State returns the state behind the last lot.
func State(s api.Scheme, found []int) (int, api.Errno) {
	_, state, err := History(s, found)
	return state, err
}

// Restart goes on behind lots that led to a stop: more is inspected as History does it, from tightened inspection on.
func Restart(s api.Scheme, found []int, more []int) ([]api.Inspected, int, api.Errno) {
	state, err := State(s, found)
	if err != api.OK {
		return nil, 0, err
	}
	if state != api.InspectStopped {
		return nil, 0, api.ErrArg
	}
	return run(s, api.InspectTight, more)
}

// run inspects lots from a state on that is newly entered.
func run(s api.Scheme, state int, found []int) ([]api.Inspected, int, api.Errno) {
	if !ValidScheme(s) {
		return nil, 0, api.ErrPlan
	}
	if len(found) > api.MaxLots {
		return nil, 0, api.ErrLimit
	}
	in := inspection{Scheme: s, state: state}
	var done []api.Inspected
	for _, bad := range found {
		lot, err := in.inspect(bad)
		if err != api.OK {
			return nil, 0, err
		}
		done = append(done, lot)
	}
	return done, in.state, api.OK
}

// inspect inspects a lot with so many bad pieces in its sample, and changes the state behind it.
func (in *inspection) inspect(bad int) (api.Inspected, api.Errno) {
	if in.state == api.InspectStopped {
		return api.Inspected{}, api.ErrStopped
	}
	accepted, err := Accepted(in.plan(), bad)
	if err != api.OK {
		return api.Inspected{}, err
	}
	lot := api.Inspected{State: in.state, Accepted: accepted}
	in.lots = append(in.lots, accepted)
	if next := in.next(); next != in.state {
		in.state, in.lots = next, nil
	}
	return lot, api.OK
}

func (in *inspection) plan() api.Plan {
	switch in.state {
	case api.InspectTight:
		return in.Tight
	case api.InspectReduced:
		return in.Reduced
	}
	return in.Normal
}

// next returns the state that follows from the lots inspected since the present one was entered.
func (in *inspection) next() int {
	switch in.state {
	case api.InspectNormal:
		if refused(in.last(windowOfNormal)) >= refusedToTight {
			return api.InspectTight
		}
		if in.passed(passedToReduced) {
			return api.InspectReduced
		}
	case api.InspectTight:
		if in.passed(passedToNormal) {
			return api.InspectNormal
		}
		if refused(in.lots) >= refusedToStop {
			return api.InspectStopped
		}
	case api.InspectReduced:
		if refused(in.lots) > 0 {
			return api.InspectNormal
		}
	}
	return in.state
}

// passed reports whether there are n lots and the last n were all accepted.
func (in *inspection) passed(n int) bool {
	return len(in.lots) >= n && refused(in.last(n)) == 0
}

// last returns the last n lots, or all if there are fewer.
func (in *inspection) last(n int) []bool {
	return in.lots[max(0, len(in.lots)-n):]
}

func refused(lots []bool) int {
	n := 0
	for _, accepted := range lots {
		if !accepted {
			n++
		}
	}
	return n
}

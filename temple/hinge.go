package temple

import "pantoscope/api"

// Limits of hinges.
const (
	maxFriction = 10_000
	maxWear     = 1000
)

// ValidHinge reports whether a hinge is valid.
func ValidHinge(h api.Hinge) bool {
	return (h.Barrels == 3 || h.Barrels == 5 || h.Barrels == 7) && within(h.Start, 1, maxFriction) &&
		within(h.Wear, 0, maxWear) && within(h.Tighten, 1, maxFriction)
}

// Opened returns a friction after n openings.
func Opened(h api.Hinge, f, n int) (int, api.Errno) {
	if err := checkHinge(h, f, n, 0); err != api.OK {
		return 0, err
	}
	for range n {
		f = opened(h, f)
	}
	return f, api.OK
}

// Tightened returns a friction after the hinge was tightened.
func Tightened(h api.Hinge, f int) (int, api.Errno) {
	if err := checkHinge(h, f, 0, 0); err != api.OK {
		return 0, err
	}
	return tightened(h, f), api.OK
}

// Life returns after how many openings a friction is first less than the least one, and false if it never is.
func Life(h api.Hinge, f, least int) (int, bool, api.Errno) {
	if err := checkHinge(h, f, 0, least); err != api.OK {
		return 0, false, err
	}
	for n := range api.MaxOpen + 1 {
		if f < least {
			return n, true, api.OK
		}
		f = opened(h, f)
	}
	return 0, false, api.OK
}

// Services returns how many times a new hinge is tightened during n openings to keep the least friction.
func Services(h api.Hinge, n, least int) (int, api.Errno) {
	if err := checkHinge(h, 0, n, least); err != api.OK {
		return 0, err
	}
	services, f := 0, h.Start
	for range n {
		if opened(h, f) < least {
			f = tightened(h, f)
			services++
		}
		f = opened(h, f)
		if f < least {
			return 0, api.ErrLimit
		}
	}
	return services, api.OK
}

// checkHinge checks a hinge with a friction, a number of openings and a least friction.
func checkHinge(h api.Hinge, f, n, least int) api.Errno {
	if !ValidHinge(h) {
		return api.ErrHinge
	}
	if !within(f, 0, h.Start) || !within(n, 0, api.MaxOpen) || !within(least, 0, h.Start) {
		return api.ErrArg
	}
	return api.OK
}

// opened is the friction after one opening: what it loses is rounded up.
func opened(h api.Hinge, f int) int {
	whole := 1000 * h.Barrels
	return f - (f*h.Wear+whole-1)/whole
}

func tightened(h api.Hinge, f int) int {
	return min(f+h.Tighten, h.Start)
}

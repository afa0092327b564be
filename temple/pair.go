package temple

import "pantoscope/api"

// Limits of temples.
const (
	maxNumber    = 1_000_000_000
	maxLength    = 2000
	maxColour    = 9
	maxTolerance = 1000
)

func within(n, least, most int) bool {
	return least <= n && n <= most
}

func isIndex(i int, l []api.Temple) bool {
	return within(i, 0, len(l)-1)
}

func validTemple(t api.Temple) bool {
	return within(t.Number, 1, maxNumber) && (t.Side == api.SideLeft || t.Side == api.SideRight) &&
		within(t.Length, 1, maxLength) && within(t.Colour, 1, maxColour)
}

func checkList(l []api.Temple, tol int) api.Errno {
	if !Valid(l) {
		return api.ErrTemple
	}
	if !within(tol, 0, maxTolerance) {
		return api.ErrArg
	}
	return api.OK
}

func canPair(a, b api.Temple, tol int) bool {
	return a.Side != b.Side && a.Colour == b.Colour && within(a.Length-b.Length, -tol, tol)
}

// checkPairs tells what is wrong with pairs of a valid list.
func checkPairs(l []api.Temple, tol int, pairs [][2]int) api.Errno {
	for _, p := range pairs {
		if !isIndex(p[0], l) || !isIndex(p[1], l) {
			return api.ErrArg
		}
	}
	used := make([]bool, len(l))
	for _, p := range pairs {
		left, right := p[0], p[1]
		if left == right || used[left] || used[right] {
			return api.ErrTwice
		}
		used[left], used[right] = true, true
		if l[left].Side != api.SideLeft || !canPair(l[left], l[right], tol) {
			return api.ErrPair
		}
	}
	return api.OK
}

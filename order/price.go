package order

import "pantoscope/api"

// latest returns the element of a list that has a name and the latest day that is not later.
func latest[T any](list []T, at since, key func(T) since) (T, bool) {
	var found T
	day := -1
	for _, e := range list {
		if k := key(e); k.name == at.name && within(k.day, day+1, at.day) {
			found, day = e, k.day
		}
	}
	return found, day >= 0
}

// checkedSteps checks the arguments of Price and Cheapest, and returns the steps of the price.
func checkedSteps(l []api.Price, model string, day, count int) ([]api.Step, api.Errno) {
	if !ValidPrices(l) {
		return nil, api.ErrPrices
	}
	if !isDay(day) || !within(count, 1, maxCount) {
		return nil, api.ErrArg
	}
	return stepsOf(l, model, day)
}

// stepsOf returns the steps of the price of a model on a day.
func stepsOf(l []api.Price, model string, day int) ([]api.Step, api.Errno) {
	p, ok := latest(l, since{name: model, day: day}, priceSince)
	if !ok {
		return nil, api.ErrPrice
	}
	return p.Steps, api.OK
}

// centsFor is the price of one piece, of so many.
func centsFor(steps []api.Step, count int) int {
	cents := 0
	for _, s := range steps {
		if s.Count <= count {
			cents = s.Cents
		}
	}
	return cents
}

// cheapest looks at a count and at the first count of each later step alone: within a step more pieces never cost less.
func cheapest(steps []api.Step, count int) (int, int) {
	best, cost := count, count*centsFor(steps, count)
	for _, s := range steps {
		if s.Count > count && s.Count*s.Cents < cost {
			best, cost = s.Count, s.Count*s.Cents
		}
	}
	return best, cost
}

package order

import "pantoscope/api"

// Amounts are at most 2^40, and what they are multiplied by is at most 10^6: twice the product fits into 64 bits.

// down is a / b, rounded down, for b greater than 0.
func down(a, b int) int {
	if a%b < 0 {
		return a/b - 1
	}
	return a / b
}

// halfUp is the whole number nearest to a / b, of two the greater one, for b greater than 0.
func halfUp(a, b int) int {
	return down(2*a+b, 2*b)
}

// converted is an amount in a currency, on a day.
func converted(rates []api.Rate, currency string, day, cents int) (int, api.Errno) {
	if currency == euro {
		return cents, api.OK
	}
	rate, ok := latest(rates, since{name: currency, day: day}, rateSince)
	if !ok {
		return 0, api.ErrRate
	}
	units := halfUp(cents*rate.Num, rate.Den)
	if !isAmount(units) {
		return 0, api.ErrLimit
	}
	return units, api.OK
}

func sum(list []int) int {
	all := 0
	for _, n := range list {
		all += n
	}
	return all
}

// shares are the differences of what is rounded down up to each weight.
func shares(cents int, weights []int) []int {
	var list []int
	all, weight, given := sum(weights), 0, 0
	for _, w := range weights {
		weight += w
		upTo := down(cents*weight, all)
		list = append(list, upTo-given)
		given = upTo
	}
	return list
}

package order

import (
	"slices"
	"strings"

	"pantoscope/api"
)

// Limits of forms, prices and rates.
const (
	maxWord    = 12
	maxColour  = 9
	maxSize    = 1_000_000_000
	maxPieces  = 1000 // in one line of a form
	maxPrices  = 60
	maxSteps   = 8
	maxCount   = 100_000
	maxPrice   = 10_000_000
	maxRates   = 60
	maxRate    = 1_000_000
	maxWeights = 100
	maxWeight  = 10_000
)

const (
	letters = "ABCDEFGHIJKLMNOPQRSTUVWXYZ"
	digits  = "0123456789"
)

// euro is the currency of the works: its units are cents.
const euro = "EUR"

func within(n, least, most int) bool {
	return least <= n && n <= most
}

// every tells whether all elements of a list are valid.
func every[T any](list []T, valid func(T) bool) bool {
	return !slices.ContainsFunc(list, func(e T) bool { return !valid(e) })
}

// distinct tells whether no two elements of a list have the same key.
func distinct[T any, K comparable](list []T, key func(T) K) bool {
	seen := map[K]bool{}
	for _, e := range list {
		seen[key(e)] = true
	}
	return len(seen) == len(list)
}

func isIndex[T any](list []T, i int) bool {
	return within(i, 0, len(list)-1)
}

func isWord(s string) bool {
	return within(len(s), 1, maxWord) && isOf(s, letters+digits)
}

func isCurrency(s string) bool {
	return len(s) == 3 && isOf(s, letters)
}

// isOf tells whether s has these signs alone.
func isOf(s, signs string) bool {
	return strings.Trim(s, signs) == ""
}

func isDay(n int) bool {
	return within(n, 0, api.MaxDay)
}

func isAmount(cents int) bool {
	return within(cents, -api.MaxCents, api.MaxCents)
}

func isWeight(n int) bool {
	return within(n, 0, maxWeight)
}

func validLine(l api.Line) bool {
	return isWord(l.Model) && within(l.Colour, 1, maxColour) && within(l.Size, 1, maxSize) && within(l.Count, 1, maxPieces)
}

func validPrice(p api.Price) bool {
	return isWord(p.Model) && isDay(p.Day) && validSteps(p.Steps)
}

func validSteps(steps []api.Step) bool {
	if !within(len(steps), 1, maxSteps) || steps[0].Count != 1 {
		return false
	}
	before := 0
	for _, s := range steps {
		if !within(s.Count, before+1, maxCount) || !within(s.Cents, 0, maxPrice) {
			return false
		}
		before = s.Count
	}
	return true
}

func validRate(r api.Rate) bool {
	return isCurrency(r.Currency) && r.Currency != euro && isDay(r.Day) && within(r.Num, 1, maxRate) && within(r.Den, 1, maxRate)
}

// since names a price or a rate by its model or currency, and by the day from which on it holds.
type since struct {
	name string
	day  int
}

func priceSince(p api.Price) since {
	return since{name: p.Model, day: p.Day}
}

func rateSince(r api.Rate) since {
	return since{name: r.Currency, day: r.Day}
}

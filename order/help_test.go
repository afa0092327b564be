package order_test

import (
	"maps"
	"math/big"
	"math/rand/v2"
	"reflect"
	"slices"
	"strings"
	"testing"

	"pantoscope/api"
)

// must stops a test if a call that has to succeed does not.
func must[T any](t *testing.T) func(T, api.Errno) T {
	return func(v T, e api.Errno) T {
		t.Helper()
		if e != api.OK {
			t.Fatalf("error %d", e)
		}
		return v
	}
}

// must2 is must for calls with two results beside the error.
func must2[T, U any](t *testing.T) func(T, U, api.Errno) (T, U) {
	return func(v T, u U, e api.Errno) (T, U) {
		t.Helper()
		if e != api.OK {
			t.Fatalf("error %d", e)
		}
		return v, u
	}
}

// results are the results of a call.
func results(r ...any) []any { return r }

// isError tells whether the results are zero values and this error.
func isError(results []any, err api.Errno) bool {
	end := len(results) - 1
	for _, r := range results[:end] {
		v := reflect.ValueOf(r)
		if f, ok := r.(api.Form); ok && sameForm(f, api.Form{}) {
			continue
		}
		if !v.IsZero() && !(v.Kind() == reflect.Slice && v.Len() == 0) {
			return false
		}
	}
	return results[end] == err
}

// price has steps of pairs of numbers: a Count and Cents.
func price(model string, day int, steps ...int) api.Price {
	p := api.Price{Model: model, Day: day}
	for i := 0; i+1 < len(steps); i += 2 {
		p.Steps = append(p.Steps, api.Step{Count: steps[i], Cents: steps[i+1]})
	}
	return p
}

func prices(list ...api.Price) []api.Price { return list }

func rate(currency string, day, num, den int) api.Rate {
	return api.Rate{Currency: currency, Day: day, Num: num, Den: den}
}

func rates(list ...api.Rate) []api.Rate { return list }

func line(model string, colour, size, count int) api.Line {
	return api.Line{Model: model, Colour: colour, Size: size, Count: count}
}

func form(customer string, day int, currency string, lines ...api.Line) api.Form {
	return api.Form{Customer: customer, Day: day, Currency: currency, Lines: lines}
}

func sameForm(f, g api.Form) bool {
	return f.Customer == g.Customer && f.Day == g.Day && f.Currency == g.Currency && slices.Equal(f.Lines, g.Lines)
}

// example is a form with 6 and 5 pieces of a model that costs less from 10 on.
func example(currency string) ([]api.Price, api.Form) {
	return prices(price("A", 0, 1, 1000, 10, 900)), form("OPTIC", 7, currency, line("A", 1, 50, 6), line("A", 2, 52, 5))
}

func repeated[T any](n int, e T) []T { return slices.Repeat([]T{e}, n) }

// badPrices are price lists each of which has one thing wrong.
func badPrices() map[string][]api.Price {
	bad := map[string][]api.Price{
		"same model and day": prices(price("A", 3, 1, 5), price("B", 3, 1, 5), price("A", 3, 1, 6)),
		"61 prices":          manyPrices(61),
		"model too long":     prices(price("ABCDEFGHIJKLM", 0, 1, 5)),
		"day below":          prices(price("A", -1, 1, 5)),
		"day above":          prices(price("A", api.MaxDay+1, 1, 5)),
		"no steps":           prices(price("A", 0)),
		"9 steps":            prices(price("A", 0, 1, 5, 2, 5, 3, 5, 4, 5, 5, 5, 6, 5, 7, 5, 8, 5, 9, 5)),
		"first count 2":      prices(price("A", 0, 2, 5)),
		"first count 0":      prices(price("A", 0, 0, 5, 1, 5)),
		"counts equal":       prices(price("A", 0, 1, 5, 7, 5, 7, 4)),
		"counts fall":        prices(price("A", 0, 1, 5, 7, 5, 6, 4)),
		"count above":        prices(price("A", 0, 1, 5, 100001, 5)),
		"cents below":        prices(price("A", 0, 1, 5, 2, -1)),
		"cents above":        prices(price("A", 0, 1, 10_000_001)),
		"the last of two":    prices(price("A", 0, 1, 5), price("B", 0, 1, -1)),
	}
	for _, word := range badWords() {
		bad["model "+word] = prices(price(word, 0, 1, 5))
	}
	return bad
}

func badWords() []string {
	return []string{"", "a", "Aa", "A B", " A", "A ", "A-1", "A\n", "A\x00", "Ä", "\xff", "/", ":", "@", "["}
}

func badCurrencies() []string {
	return []string{"", "A", "AB", "ABCD", "abc", "AB1", "AB ", "A\nB", "ÄB", "AB\xff", "AB@", "AB["}
}

// badRates are rates of which each list has one thing wrong.
func badRates() map[string][]api.Rate {
	bad := map[string][]api.Rate{
		"same currency and day": rates(rate("USD", 3, 1, 1), rate("CHF", 3, 1, 1), rate("USD", 3, 1, 2)),
		"61 rates":              manyRates(61),
		"a rate of EUR":         rates(rate("EUR", 0, 1, 1)),
		"day below":             rates(rate("USD", -1, 1, 1)),
		"day above":             rates(rate("USD", api.MaxDay+1, 1, 1)),
		"num below":             rates(rate("USD", 0, 0, 1)),
		"num above":             rates(rate("USD", 0, 1_000_001, 1)),
		"den below":             rates(rate("USD", 0, 1, 0)),
		"den above":             rates(rate("USD", 0, 1, 1_000_001)),
		"the last of two":       rates(rate("USD", 0, 1, 1), rate("CHF", 0, 1, -1)),
	}
	for _, c := range badCurrencies() {
		bad["currency "+c] = rates(rate(c, 0, 1, 1))
	}
	return bad
}

// badForms are forms each of which has one thing wrong.
func badForms() map[string]api.Form {
	good := line("A", 1, 50, 6)
	bad := map[string]api.Form{
		"customer too long": form("ABCDEFGHIJKLM", 0, "EUR", good),
		"day below":         form("C", -1, "EUR", good),
		"day above":         form("C", api.MaxDay+1, "EUR", good),
		"no lines":          form("C", 0, "EUR"),
		"41 lines":          form("C", 0, "EUR", repeated(41, good)...),
		"model too long":    form("C", 0, "EUR", line("ABCDEFGHIJKLM", 1, 50, 6)),
		"colour below":      form("C", 0, "EUR", line("A", 0, 50, 6)),
		"colour above":      form("C", 0, "EUR", line("A", 10, 50, 6)),
		"size below":        form("C", 0, "EUR", line("A", 1, 0, 6)),
		"size above":        form("C", 0, "EUR", line("A", 1, 1_000_000_001, 6)),
		"count below":       form("C", 0, "EUR", line("A", 1, 50, 0)),
		"count above":       form("C", 0, "EUR", line("A", 1, 50, 1001)),
		"the last of two":   form("C", 0, "EUR", good, line("A", 1, 50, -6)),
	}
	for _, word := range badWords() {
		bad["customer "+word] = form(word, 0, "EUR", good)
		bad["model "+word] = form("C", 0, "EUR", line(word, 1, 50, 6))
	}
	for _, c := range badCurrencies() {
		bad["currency "+c] = form("C", 0, c, good)
	}
	return bad
}

// manyPrices are n prices of one model, on the days from 0 on.
func manyPrices(n int) []api.Price {
	var list []api.Price
	for day := range n {
		list = append(list, price("A", day, 1, day))
	}
	return list
}

func manyRates(n int) []api.Rate {
	var list []api.Rate
	for day := range n {
		list = append(list, rate("USD", day, day+1, 1))
	}
	return list
}

// pick is one of a list.
func pick[T any](r *rand.Rand, list ...T) T { return list[r.IntN(len(list))] }

func randomWord(r *rand.Rand) string {
	const signs = "ABCDEFGHIJKLMNOPQRSTUVWXYZ0123456789"
	var word strings.Builder
	for range 1 + r.IntN(12) {
		word.WriteByte(signs[r.IntN(len(signs))])
	}
	return word.String()
}

// randomSteps have small counts and cents, or such as are near the limits.
func randomSteps(r *rand.Rand) []int {
	counts := map[int]bool{1: true}
	most := pick(r, 12, 1000, 100_000)
	for range r.IntN(8) {
		counts[1+r.IntN(most)] = true
	}
	var steps []int
	cents := pick(r, 10, 1000, 10_000_001)
	for _, count := range slices.Sorted(maps.Keys(counts)) {
		steps = append(steps, count, r.IntN(cents))
	}
	return steps
}

// models are the models of random prices and forms; D is never on a list.
func models() []string { return []string{"A", "B", "C"} }

// randomPrices are prices on some of the days from 0 to 9.
func randomPrices(r *rand.Rand) []api.Price {
	var list []api.Price
	for _, model := range models() {
		for day := range 10 {
			if r.IntN(4) == 0 {
				list = append(list, price(model, day, randomSteps(r)...))
			}
		}
	}
	r.Shuffle(len(list), func(i, j int) { list[i], list[j] = list[j], list[i] })
	return list
}

// randomRates are rates of USD and CHF on some of the days from 0 to 9.
func randomRates(r *rand.Rand) []api.Rate {
	var list []api.Rate
	for _, currency := range []string{"USD", "CHF"} {
		for day := range 10 {
			if r.IntN(4) == 0 {
				num, den := 1+r.IntN(pick(r, 3, 200, 1_000_000)), 1+r.IntN(pick(r, 3, 200, 1_000_000))
				list = append(list, rate(currency, day, num, den))
			}
		}
	}
	r.Shuffle(len(list), func(i, j int) { list[i], list[j] = list[j], list[i] })
	return list
}

// randomForm has lines with few Models, Colours and Sizes, so that some are the same.
func randomForm(r *rand.Rand, models ...string) api.Form {
	f := form(randomWord(r), r.IntN(14), pick(r, "EUR", "USD", "CHF"))
	most := pick(r, 4, 60, 1000)
	for range 1 + r.IntN(12) {
		f.Lines = append(f.Lines, line(pick(r, models...), 1+r.IntN(2), 50+r.IntN(2), 1+r.IntN(most)))
	}
	return f
}

// randomCents is in range, and sometimes at its ends.
func randomCents(r *rand.Rand) int {
	most := pick(r, 5, 1000, api.MaxCents)
	return pick(r, -api.MaxCents, api.MaxCents, r.IntN(2*most+1)-most, r.IntN(2*most+1)-most, r.IntN(2*most+1)-most)
}

// times is a product over a number, exactly.
func times(a, b, over int) *big.Rat {
	x := new(big.Rat).SetInt64(int64(a))
	return x.Mul(x, new(big.Rat).SetFrac64(int64(b), int64(over)))
}

// floor is the greatest whole number that is at most x.
func floor(x *big.Rat) int {
	return int(new(big.Int).Div(x.Num(), x.Denom()).Int64())
}

// halfUp is the nearest whole number, of two the greater one.
func halfUp(x *big.Rat) int {
	return floor(new(big.Rat).Add(x, big.NewRat(1, 2)))
}

// modelPrice goes back from the day on, as the terms say.
func modelPrice(l []api.Price, model string, day, count int) (int, api.Errno) {
	for ; day >= 0; day-- {
		for _, p := range l {
			if p.Model != model || p.Day != day {
				continue
			}
			for _, s := range slices.Backward(p.Steps) {
				if s.Count <= count {
					return s.Cents, api.OK
				}
			}
		}
	}
	return 0, api.ErrPrice
}

func modelConvert(rates []api.Rate, currency string, day, cents int) (int, api.Errno) {
	if currency == "EUR" {
		return cents, api.OK
	}
	for ; day >= 0; day-- {
		for _, r := range rates {
			if r.Currency == currency && r.Day == day {
				n := halfUp(times(cents, r.Num, r.Den))
				if max(n, -n) > api.MaxCents {
					return 0, api.ErrLimit
				}
				return n, api.OK
			}
		}
	}
	return 0, api.ErrRate
}

// modelLine is the amount of a line of a form, as the chapter says.
func modelLine(l []api.Price, rates []api.Rate, f api.Form, i int) (int, api.Errno) {
	count := 0
	for _, other := range f.Lines {
		if other.Model == f.Lines[i].Model {
			count += other.Count
		}
	}
	each, err := modelPrice(l, f.Lines[i].Model, f.Day, count)
	if err != api.OK {
		return 0, err
	}
	return modelConvert(rates, f.Currency, f.Day, each*f.Lines[i].Count)
}

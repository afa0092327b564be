package order_test

import (
	"math"
	"math/big"
	"math/rand/v2"
	"slices"
	"testing"

	"pantoscope/api"
	"pantoscope/order"
)

// P8.4: half up, the rate of the day, and EUR.
func TestConvert(t *testing.T) {
	list := rates(rate("USD", 20, 3, 1), rate("USD", 5, 109, 100), rate("CHF", 0, 1, 2), rate("USD", 10, 1, 1_000_000), rate("JPY", 0, 1_000_000, 1))
	for _, c := range []struct {
		currency         string
		day, cents, want int
	}{
		{"USD", 5, 1000, 1090}, {"USD", 9, 1000, 1090}, {"USD", 10, 1000, 0}, {"USD", 19, 1_500_000, 2}, {"USD", 20, 1000, 3000}, {"USD", api.MaxDay, -1000, -3000},
		{"CHF", 0, 5, 3}, {"CHF", 0, -5, -2}, {"CHF", 0, 4, 2}, {"CHF", 0, -4, -2}, {"CHF", 0, 1, 1}, {"CHF", 0, -1, 0}, {"CHF", 0, 0, 0},
		{"USD", 10, 499_999, 0}, {"USD", 10, 500_000, 1}, {"USD", 10, -500_000, 0}, {"USD", 10, -500_001, -1}, {"USD", 5, 1, 1}, {"USD", 5, 50, 55}, {"USD", 5, -50, -54},
		{"CHF", 0, api.MaxCents, api.MaxCents / 2}, {"CHF", 0, -api.MaxCents, -api.MaxCents / 2}, {"CHF", 0, api.MaxCents - 1, api.MaxCents / 2}, {"USD", 10, api.MaxCents, 1099512},
		{"JPY", 0, 1_099_511, 1_099_511_000_000}, {"JPY", 0, -1_099_511, -1_099_511_000_000},
		{"EUR", 0, 5, 5}, {"EUR", api.MaxDay, api.MaxCents, api.MaxCents}, {"EUR", 3, -api.MaxCents, -api.MaxCents},
	} {
		if got, e := order.Convert(list, c.currency, c.day, c.cents); got != c.want || e != api.OK {
			t.Errorf("Convert(%s, %d, %d): %d, %d", c.currency, c.day, c.cents, got, e)
		}
	}
	if got, e := order.Convert(nil, "EUR", 0, 7); got != 7 || e != api.OK {
		t.Errorf("Convert without rates: %d, %d", got, e)
	}
}

// P8.4: the result may be as great as an amount, and no greater.
func TestConvertToTheLimit(t *testing.T) {
	third := api.MaxCents / 3 // 3 * third + 1 is MaxCents
	for _, c := range []struct {
		num, den, cents, want int
	}{
		{2, 1, api.MaxCents / 2, api.MaxCents}, {2, 1, -api.MaxCents / 2, -api.MaxCents}, {1, 1, api.MaxCents, api.MaxCents}, {1, 1, -api.MaxCents, -api.MaxCents},
		{3, 1, third, api.MaxCents - 1}, {3, 2, -2 * third, 1 - api.MaxCents},
	} {
		if got, e := order.Convert(rates(rate("USD", 0, c.num, c.den)), "USD", 0, c.cents); got != c.want || e != api.OK {
			t.Errorf("%v: %d, %d", c, got, e)
		}
	}
	for _, c := range []struct{ num, den, cents int }{
		{2, 1, api.MaxCents/2 + 1}, {2, 1, -api.MaxCents/2 - 1}, {3, 1, third + 1}, {3, 1, -third - 1}, {1_000_000, 1, api.MaxCents}, {1_000_000, 1, -api.MaxCents},
		{1_000_000, 1, 1_099_512}, {1_000_000, 999_999, api.MaxCents}, {1_000_000, 999_999, -api.MaxCents},
	} {
		if r := results(order.Convert(rates(rate("USD", 0, c.num, c.den)), "USD", 0, c.cents)); !isError(r, api.ErrLimit) {
			t.Errorf("%v: %v", c, r)
		}
	}
}

// P8.4: the errors, in their order.
func TestErrorsOfConvert(t *testing.T) {
	expect := func(list []api.Rate, currency string, day, cents int, want api.Errno) {
		t.Helper()
		if r := results(order.Convert(list, currency, day, cents)); !isError(r, want) {
			t.Errorf("Convert(%v, %q, %d, %d): %v", list, currency, day, cents, r)
		}
	}
	for _, bad := range badRates() {
		expect(bad, "USD", 0, 1, api.ErrRate)
		expect(bad, "EUR", 0, 1, api.ErrRate)
		expect(bad, "", -1, math.MaxInt, api.ErrRate)
	}
	list := rates(rate("USD", 5, 1_000_000, 1))
	for _, bad := range badCurrencies() {
		expect(list, bad, 5, 1, api.ErrArg)
	}
	for _, currency := range []string{"USD", "EUR", "CHF"} {
		for _, bad := range []int{-1, api.MaxDay + 1, math.MinInt, math.MaxInt} {
			expect(list, currency, bad, 1, api.ErrArg)
		}
		for _, bad := range []int{api.MaxCents + 1, -api.MaxCents - 1, math.MinInt, math.MaxInt} {
			expect(list, currency, 5, bad, api.ErrArg)
		}
	}
	expect(list, "USD", 4, api.MaxCents, api.ErrRate)
	expect(list, "CHF", 5, api.MaxCents, api.ErrRate)
	expect(nil, "USD", 5, 0, api.ErrRate)
	expect(list, "USD", 5, api.MaxCents, api.ErrLimit)
}

// P8.4: Convert is what the terms say.
func TestConvertModel(t *testing.T) {
	r := rand.New(rand.NewPCG(9, 10))
	found := map[api.Errno]int{}
	for range 2000 {
		list := randomRates(r)
		for range 10 {
			currency, day, cents := pick(r, "USD", "CHF", "EUR", "USD", "CHF", "JPY"), r.IntN(14), randomCents(r)
			want, err := modelConvert(list, currency, day, cents)
			found[err]++
			if got, e := order.Convert(list, currency, day, cents); got != want || e != err {
				t.Fatalf("Convert(%v, %s, %d, %d): %d, %d, not %d, %d", list, currency, day, cents, got, e, want, err)
			}
		}
	}
	if min(found[api.OK], found[api.ErrRate], found[api.ErrLimit]) < 1000 {
		t.Errorf("%v", found)
	}
}

// P8.7: thousandths off, half up.
func TestDiscount(t *testing.T) {
	for _, c := range []struct{ cents, mille, want int }{
		{1000, 0, 1000}, {1000, 1, 999}, {1000, 1000, 0}, {1000, 250, 750}, {1, 500, 1}, {-1, 500, 0}, {3, 500, 2}, {-3, 500, -1}, {1, 501, 0}, {1, 499, 1}, {-1, 499, -1}, {-1, 501, 0},
		{0, 7, 0}, {api.MaxCents, 0, api.MaxCents}, {-api.MaxCents, 0, -api.MaxCents}, {api.MaxCents, 500, api.MaxCents / 2}, {-api.MaxCents, 1000, 0}, {api.MaxCents, 1, 1098412116148}, {-api.MaxCents, 999, -1099511628},
	} {
		if got, e := order.Discount(c.cents, c.mille); got != c.want || e != api.OK {
			t.Errorf("Discount(%d, %d): %d, %d", c.cents, c.mille, got, e)
		}
	}
	for _, c := range [][2]int{
		{api.MaxCents + 1, 0}, {-api.MaxCents - 1, 0}, {math.MaxInt, 0}, {math.MinInt, 1000}, {5, -1}, {5, 1001}, {5, math.MinInt}, {5, math.MaxInt}, {math.MaxInt, math.MaxInt},
	} {
		if r := results(order.Discount(c[0], c[1])); !isError(r, api.ErrArg) {
			t.Errorf("Discount(%d, %d): %v", c[0], c[1], r)
		}
	}
	r := rand.New(rand.NewPCG(11, 12))
	for range 20000 {
		cents, mille := randomCents(r), r.IntN(1001)
		if got, e := order.Discount(cents, mille); got != halfUp(times(cents, 1000-mille, 1000)) || e != api.OK {
			t.Fatalf("Discount(%d, %d): %d, %d", cents, mille, got, e)
		}
	}
}

// P8.7: shares, also of amounts below 0 and of weights that are 0.
func TestSplit(t *testing.T) {
	for _, c := range []struct {
		cents         int
		weights, want []int
	}{
		{100, []int{1, 1, 1}, []int{33, 33, 34}}, {-100, []int{1, 1, 1}, []int{-34, -33, -33}}, {0, []int{1, 2}, []int{0, 0}}, {7, []int{5}, []int{7}}, {-7, []int{10000}, []int{-7}},
		{2, []int{1, 1, 1}, []int{0, 1, 1}}, {10, []int{0, 3, 0, 7, 0}, []int{0, 3, 0, 7, 0}}, {-1, []int{1, 1}, []int{-1, 0}}, {1, []int{1, 1}, []int{0, 1}}, {5, []int{0, 0, 1}, []int{0, 0, 5}},
		{api.MaxCents, []int{1, 1}, []int{api.MaxCents / 2, api.MaxCents / 2}}, {api.MaxCents, repeated(64, 10000), repeated(64, api.MaxCents/64)}, {-api.MaxCents, []int{10000, 0}, []int{-api.MaxCents, 0}},
		{100, repeated(100, 10000), repeated(100, 1)}, {api.MaxCents, append(repeated(99, 10000), 0), nil},
	} {
		got, e := order.Split(c.cents, c.weights)
		if c.want != nil && !slices.Equal(got, c.want) || len(got) != len(c.weights) || e != api.OK {
			t.Errorf("Split(%d, %v): %v, %d", c.cents, c.weights, got, e)
		}
	}
}

// P8.7: the errors of Split, in their order.
func TestErrorsOfSplit(t *testing.T) {
	for _, cents := range []int{5, math.MaxInt} {
		for _, weight := range []int{1, 0, -1} {
			if r := results(order.Split(cents, repeated(101, weight))); !isError(r, api.ErrLimit) {
				t.Errorf("Split(%d, 101 times %d): %v", cents, weight, r)
			}
		}
	}
	for _, cents := range []int{api.MaxCents + 1, -api.MaxCents - 1, math.MaxInt, math.MinInt} {
		if r := results(order.Split(cents, []int{1})); !isError(r, api.ErrArg) {
			t.Errorf("Split(%d): %v", cents, r)
		}
	}
	for _, weights := range [][]int{nil, {}, {0}, {0, 0, 0}, {1, -1, 1}, {-1}, {1, 10001}, {math.MaxInt, math.MaxInt, 3}, {math.MinInt, math.MinInt}, repeated(100, 0)} {
		if r := results(order.Split(5, weights)); !isError(r, api.ErrArg) {
			t.Errorf("Split(5, %v): %v", weights, r)
		}
	}
}

// randomWeights have some that are 0, and one that is not.
func randomWeights(r *rand.Rand) []int {
	weights := []int{1 + r.IntN(10000)}
	most := pick(r, 2, 30, 10001)
	for range r.IntN(pick(r, 5, 100)) {
		weights = append(weights, r.IntN(most))
	}
	r.Shuffle(len(weights), func(i, j int) { weights[i], weights[j] = weights[j], weights[i] })
	return weights
}

// P8.7, P8.11: the shares up to each one are rounded down, add up to the amount, differ from what is exact by less than 1,
// and are 0 for a weight of 0.
func TestSplitModel(t *testing.T) {
	r := rand.New(rand.NewPCG(13, 14))
	for range 5000 {
		cents, weights := randomCents(r), randomWeights(r)
		all := 0
		for _, w := range weights {
			all += w
		}
		got := must[[]int](t)(order.Split(cents, weights))
		weight, given := 0, 0
		for i, w := range weights {
			weight += w
			given += got[i]
			off := new(big.Rat).Sub(new(big.Rat).SetInt64(int64(got[i])), times(cents, w, all))
			if given != floor(times(cents, weight, all)) || w == 0 && got[i] != 0 || off.Abs(off).Cmp(big.NewRat(1, 1)) >= 0 {
				t.Fatalf("Split(%d, %v): %v, share %d", cents, weights, got, i)
			}
		}
		if given != cents || len(got) != len(weights) {
			t.Fatalf("Split(%d, %v): %v, which add up to %d", cents, weights, got, given)
		}
	}
}

package order_test

import (
	"math"
	"math/rand/v2"
	"testing"

	"pantoscope/api"
	"pantoscope/order"
)

// priceList has prices of A on three days, not in their order, and one of B.
func priceList() []api.Price {
	return prices(price("A", 20, 1, 700), price("A", 5, 1, 1000, 10, 900, 100, 850), price("B", 8, 1, 1), price("A", 10, 1, 2000, 2, 3000))
}

// P8.3: the price is the last step of the latest day that is not later.
func TestPrice(t *testing.T) {
	for _, c := range []struct{ day, count, want int }{
		{5, 1, 1000}, {5, 9, 1000}, {5, 10, 900}, {5, 11, 900}, {5, 99, 900}, {5, 100, 850}, {5, 100000, 850}, {9, 10, 900},
		{10, 1, 2000}, {10, 2, 3000}, {19, 100000, 3000}, {20, 1, 700}, {21, 50, 700}, {api.MaxDay, 100000, 700},
	} {
		if got, e := order.Price(priceList(), "A", c.day, c.count); got != c.want || e != api.OK {
			t.Errorf("Price on day %d for %d: %d, %d", c.day, c.count, got, e)
		}
	}
	if got, e := order.Price(prices(price("A", 0, 1, 0)), "A", 0, 1); got != 0 || e != api.OK {
		t.Errorf("Price 0: %d, %d", got, e)
	}
}

// P8.3: of several counts that cost the same, the least one.
func TestCheapest(t *testing.T) {
	for name, c := range map[string]struct {
		steps             []int
		count, best, cost int
	}{
		"one step":                 {[]int{1, 1000}, 7, 7, 7000},
		"more cost less":           {[]int{1, 1000, 10, 500}, 6, 10, 5000},
		"more cost the same":       {[]int{1, 1000, 10, 500}, 5, 5, 5000},
		"fewer cost less":          {[]int{1, 1000, 10, 500}, 4, 4, 4000},
		"at a step":                {[]int{1, 1000, 10, 500}, 10, 10, 5000},
		"behind all steps":         {[]int{1, 1000, 10, 500}, 11, 11, 5500},
		"the second step":          {[]int{1, 1000, 10, 950, 100, 1}, 9, 100, 100},
		"a step that costs more":   {[]int{1, 10, 2, 1000, 3, 1}, 1, 3, 3},
		"steps that cost the same": {[]int{1, 100, 10, 30, 20, 15, 30, 10}, 9, 10, 300},
		"free from the start":      {[]int{1, 0, 10, 0}, 3, 3, 0},
		"free later":               {[]int{1, 1, 10, 0, 20, 0}, 3, 10, 0},
		"the last count":           {[]int{1, 10_000_000, 100000, 5}, 1, 100000, 500000},
		"only the last count":      {[]int{1, 10_000_000, 100000, 5}, 100000, 100000, 500000},
		"dearest":                  {[]int{1, 10_000_000}, 100000, 100000, 1_000_000_000_000},
		"to the last count":        {[]int{1, 10, 100000, 1}, 10001, 100000, 100000},
	} {
		best, cost, e := order.Cheapest(prices(price("A", 4, c.steps...), price("A", 3, 1, 0), price("B", 4, 1, 0)), "A", 4, c.count)
		if best != c.best || cost != c.cost || e != api.OK {
			t.Errorf("%s: %d, %d, %d", name, best, cost, e)
		}
	}
}

// P8.3: the errors, in their order.
func TestErrorsOfPrices(t *testing.T) {
	expect := func(l []api.Price, model string, day, count int, want api.Errno) {
		t.Helper()
		if r := results(order.Price(l, model, day, count)); !isError(r, want) {
			t.Errorf("Price(%q, %d, %d): %v", model, day, count, r)
		}
		if r := results(order.Cheapest(l, model, day, count)); !isError(r, want) {
			t.Errorf("Cheapest(%q, %d, %d): %v", model, day, count, r)
		}
	}
	for _, bad := range badPrices() {
		expect(bad, "A", 0, 1, api.ErrPrices)
		expect(bad, "", -1, 0, api.ErrPrices)
	}
	for _, model := range []string{"A", "D"} {
		for _, bad := range []int{-1, api.MaxDay + 1, math.MinInt, math.MaxInt} {
			expect(priceList(), model, bad, 1, api.ErrArg)
		}
		for _, bad := range []int{0, -1, 100001, math.MinInt, math.MaxInt} {
			expect(priceList(), model, 5, bad, api.ErrArg)
		}
	}
	for _, day := range []int{0, 4} {
		expect(priceList(), "A", day, 1, api.ErrPrice)
	}
	expect(priceList(), "B", 7, 1, api.ErrPrice)
	for _, model := range []string{"D", "AA", "a", "", "A ", "\xff", "ABCDEFGHIJKLM"} {
		expect(priceList(), model, api.MaxDay, 100000, api.ErrPrice)
	}
	expect(nil, "A", 5, 1, api.ErrPrice)
}

// P8.3: Price is what the terms say.
func TestPriceModel(t *testing.T) {
	r := rand.New(rand.NewPCG(5, 6))
	found := map[api.Errno]int{}
	for range 1000 {
		l := randomPrices(r)
		for range 20 {
			model, day, count := pick(r, "A", "B", "C", "D"), r.IntN(14), 1+r.IntN(pick(r, 12, 1000, 100_000))
			want, err := modelPrice(l, model, day, count)
			found[err]++
			if got, e := order.Price(l, model, day, count); got != want || e != err {
				t.Fatalf("Price(%v, %s, %d, %d): %d, %d, not %d, %d", l, model, day, count, got, e, want, err)
			}
		}
	}
	if found[api.OK] < 5000 || found[api.ErrPrice] < 2000 {
		t.Errorf("%v", found)
	}
}

// P8.3, P8.9: Cheapest is the least of all counts, and no more than what the count itself costs.
func TestCheapestModel(t *testing.T) {
	r := rand.New(rand.NewPCG(7, 8))
	more := 0
	for range 600 {
		p := price("A", 0, randomSteps(r)...)
		count := 1 + r.IntN(pick(r, 12, 1000, 100_000))
		best, cost := 0, math.MaxInt
		step := len(p.Steps) - 1
		for n := 100000; n >= count; n-- {
			for p.Steps[step].Count > n {
				step--
			}
			if all := n * p.Steps[step].Cents; all <= cost {
				best, cost = n, all
			}
		}
		if best > count {
			more++
		}
		got, all, e := order.Cheapest(prices(p), "A", 0, count)
		if got != best || all != cost || e != api.OK {
			t.Fatalf("Cheapest(%v, %d): %d, %d, %d, not %d, %d", p, count, got, all, e, best, cost)
		}
		if each := must[int](t)(order.Price(prices(p), "A", 0, count)); all > count*each {
			t.Fatalf("Cheapest(%v, %d): %d, but Price: %d", p, count, all, each)
		}
	}
	if more < 50 {
		t.Errorf("only %d times more pieces cost less", more)
	}
}

package order_test

import (
	"math/rand/v2"
	"slices"
	"testing"

	"pantoscope/api"
	"pantoscope/order"
)

// P8.9: Price, and Cheapest, depend on no price with another Model, or with a later Day.
func TestPriceOfTheModelAndTheDay(t *testing.T) {
	r := rand.New(rand.NewPCG(21, 22))
	for range 1000 {
		l := randomPrices(r)
		model, day, count := pick(r, models()...), r.IntN(12), 1+r.IntN(100_000)
		few := slices.DeleteFunc(slices.Clone(l), func(p api.Price) bool { return p.Model != model || p.Day > day })
		one, e := order.Price(l, model, day, count)
		other, err := order.Price(few, model, day, count)
		if one != other || e != err {
			t.Fatalf("Price(%v, %s, %d, %d): %d, %d, but of these alone %d, %d", l, model, day, count, one, e, other, err)
		}
		best, cost, e := order.Cheapest(l, model, day, count)
		best2, cost2, err := order.Cheapest(few, model, day, count)
		if best != best2 || cost != cost2 || e != err || cost > count*one {
			t.Fatalf("Cheapest(%v, %s, %d, %d): %d, %d, %d, but of these alone %d, %d, %d", l, model, day, count, best, cost, e, best2, cost2, err)
		}
	}
}

// randomInvoice is a form without an error, with its invoice.
func randomInvoice(t *testing.T, r *rand.Rand) ([]api.Price, []api.Rate, api.Form, []int, int) {
	t.Helper()
	for range 1000 {
		l, list, f := randomPrices(r), randomRates(r), randomForm(r, "A", "B")
		if amounts, sum, e := order.Invoice(l, list, f); e == api.OK {
			return l, list, f, amounts, sum
		}
	}
	t.Fatal("no form without an error")
	return nil, nil, api.Form{}, nil, 0
}

// P8.10: the order of the lines, and of the lists, plays no part for the amounts of the lines; the sum is theirs.
func TestOrderOfLines(t *testing.T) {
	r := rand.New(rand.NewPCG(23, 24))
	for range 1000 {
		l, list, f, amounts, sum := randomInvoice(t, r)
		mixed, places := f, r.Perm(len(f.Lines))
		mixed.Lines = nil
		for _, i := range places {
			mixed.Lines = append(mixed.Lines, f.Lines[i])
		}
		r.Shuffle(len(l), func(i, j int) { l[i], l[j] = l[j], l[i] })
		r.Shuffle(len(list), func(i, j int) { list[i], list[j] = list[j], list[i] })
		other, same := must2[[]int, int](t)(order.Invoice(l, list, mixed))
		all := 0
		for i, place := range places {
			all += other[i]
			if other[i] != amounts[place] {
				t.Fatalf("%v costs %v, but %v costs %v", f, amounts, mixed, other)
			}
		}
		if all != sum || same != sum {
			t.Fatalf("%v costs %v, which is %d, not %d or %d", f, amounts, all, sum, same)
		}
	}
}

// P8.10: in EUR, Merge does not change the sum.
func TestMergeInEuro(t *testing.T) {
	r := rand.New(rand.NewPCG(25, 26))
	fewer := 0
	for range 3000 {
		l, list, f, _, sum := randomInvoice(t, r)
		merged, e := order.Merge(f)
		if f.Currency != "EUR" || e != api.OK {
			continue
		}
		if len(merged.Lines) < len(f.Lines) {
			fewer++
		}
		if _, same := must2[[]int, int](t)(order.Invoice(l, list, merged)); same != sum {
			t.Fatalf("%v costs %d, but merged %d", f, sum, same)
		}
	}
	if fewer < 300 {
		t.Errorf("only %d forms had lines of the same", fewer)
	}
}

// P8.10: Credit of all lines is the invoice with the opposite sign; the sums of two parts add up to that of both.
func TestCreditOfParts(t *testing.T) {
	r := rand.New(rand.NewPCG(27, 28))
	for range 1000 {
		_, _, f, amounts, sum := randomInvoice(t, r)
		var all []int
		for i := range f.Lines {
			all = append(all, i)
		}
		back, none := must2[[]int, int](t)(order.Credit(amounts, all))
		for i, cents := range back {
			if cents != -amounts[i] || len(back) != len(amounts) || none != -sum {
				t.Fatalf("Credit of %v: %v, %d", amounts, back, none)
			}
		}
		mixed := r.Perm(len(all))
		cut := r.IntN(len(all) + 1)
		one, sum1 := must2[[]int, int](t)(order.Credit(amounts, mixed[:cut]))
		two, sum2 := must2[[]int, int](t)(order.Credit(amounts, mixed[cut:]))
		both, sum := must2[[]int, int](t)(order.Credit(amounts, mixed))
		if sum1+sum2 != sum || !slices.Equal(slices.Concat(one, two), both) {
			t.Fatalf("Credit of %v by %v: %v, %d, but in parts %v, %d and %v, %d", amounts, mixed, both, sum, one, sum1, two, sum2)
		}
	}
}

// P8.11: a discount of nothing is the amount.
func TestNoDiscount(t *testing.T) {
	r := rand.New(rand.NewPCG(29, 30))
	for range 5000 {
		cents := randomCents(r)
		if got, e := order.Discount(cents, 0); got != cents || e != api.OK {
			t.Fatalf("Discount(%d, 0): %d, %d", cents, got, e)
		}
	}
}

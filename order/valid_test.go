package order_test

import (
	"testing"

	"pantoscope/api"
	"pantoscope/order"
)

// P8.1: price lists, up to all their limits.
func TestValidPrices(t *testing.T) {
	for name, l := range map[string][]api.Price{
		"none":             nil,
		"example 1":        prices(price("A", 0, 1, 1000, 10, 900)),
		"longest word":     prices(price("AZ0123456789", 0, 1, 5)),
		"last day":         prices(price("A", api.MaxDay, 1, 5)),
		"8 steps":          prices(price("A", 0, 1, 5, 2, 5, 3, 5, 4, 5, 5, 5, 6, 5, 7, 5, 100000, 5)),
		"free and dearest": prices(price("A", 0, 1, 0, 2, 10_000_000)),
		"same day":         prices(price("A", 3, 1, 5), price("B", 3, 1, 5)),
		"same model":       prices(price("A", 4, 1, 5), price("A", 3, 1, 5)),
		"like a euro":      prices(price("EUR", 3, 1, 5)),
		"60 prices":        manyPrices(60),
	} {
		if !order.ValidPrices(l) {
			t.Errorf("%s: not valid", name)
		}
	}
	for name, l := range badPrices() {
		if order.ValidPrices(l) {
			t.Errorf("%s: valid", name)
		}
	}
}

// P8.1: rates, up to all their limits.
func TestValidRates(t *testing.T) {
	for name, l := range map[string][]api.Rate{
		"none":          nil,
		"example 2":     rates(rate("USD", 0, 109, 100)),
		"last day":      rates(rate("AZZ", api.MaxDay, 1, 1)),
		"greatest":      rates(rate("USD", 0, 1_000_000, 1), rate("CHF", 0, 1, 1_000_000)),
		"same day":      rates(rate("USD", 3, 1, 1), rate("CHF", 3, 1, 1)),
		"same currency": rates(rate("USD", 4, 1, 1), rate("USD", 3, 1, 1)),
		"60 rates":      manyRates(60),
	} {
		if !order.ValidRates(l) {
			t.Errorf("%s: not valid", name)
		}
	}
	for name, l := range badRates() {
		if order.ValidRates(l) {
			t.Errorf("%s: valid", name)
		}
	}
}

// P8.1: forms, up to all their limits.
func TestValidForm(t *testing.T) {
	for name, f := range map[string]api.Form{
		"one line":   form("C", 0, "EUR", line("A", 1, 1, 1)),
		"greatest":   form("ABCDEFGHIJKL", api.MaxDay, "ZZZ", line("MNOPQRSTUVWX", 9, 1_000_000_000, 1000)),
		"digits":     form("0123456789", 0, "AAA", line("0", 1, 1, 1)),
		"same lines": form("YZ", 0, "USD", line("A", 1, 1, 1), line("A", 1, 1, 1)),
		"40 lines":   form("C", 0, "EUR", repeated(40, line("A", 9, 5, 1000))...),
	} {
		if !order.ValidForm(f) {
			t.Errorf("%s: not valid", name)
		}
	}
	for name, f := range badForms() {
		if order.ValidForm(f) {
			t.Errorf("%s: valid", name)
		}
	}
	if order.ValidForm(api.Form{}) {
		t.Error("the zero value is valid")
	}
}

package order_test

import (
	"math"
	"reflect"
	"slices"
	"strings"
	"testing"

	"pantoscope/api"
	"pantoscope/order"
)

// calls are calls of all functions.
func calls(l []api.Price, list []api.Rate, f api.Form, amounts, indexes []int, n int) map[string][]any {
	text, _ := order.Format(f)
	return map[string][]any{
		"ValidPrices": results(order.ValidPrices(l), api.OK),
		"ValidRates":  results(order.ValidRates(list), api.OK),
		"ValidForm":   results(order.ValidForm(f), api.OK),
		"Format":      results(order.Format(f)),
		"Parse":       results(order.Parse(text)),
		"Price":       results(order.Price(l, "A", n, n)),
		"Cheapest":    results(order.Cheapest(l, "A", n, n)),
		"Convert":     results(order.Convert(list, "USD", n, n)),
		"Line":        results(order.Line(l, list, f, n)),
		"Invoice":     results(order.Invoice(l, list, f)),
		"Credit":      results(order.Credit(amounts, indexes)),
		"Merge":       results(order.Merge(f)),
		"Discount":    results(order.Discount(n, n)),
		"Split":       results(order.Split(n, amounts)),
	}
}

// arguments are such as have no error, with the number 1.
func arguments() ([]api.Price, []api.Rate, api.Form, []int, []int) {
	l := prices(price("B", 1, 1, 70, 3, 60), price("A", 0, 1, 1000, 10, 900), price("A", 2, 1, 5))
	f := form("OPTIC", 1, "USD", line("B", 1, 50, 4), line("A", 1, 50, 6), line("B", 1, 50, 4), line("A", 2, 52, 5))
	return l, rates(rate("USD", 1, 109, 100), rate("CHF", 0, 1, 2)), f, []int{30, 20, 50}, []int{2, 0}
}

// R4: arguments are not changed, lists are read up to their length alone, and equal arguments give equal results.
func TestArgumentsStay(t *testing.T) {
	l, list, f, amounts, indexes := arguments()
	first := calls(l, list, f, amounts, indexes, 1)
	for name, r := range first {
		if r[len(r)-1] != api.OK || reflect.ValueOf(r[0]).IsZero() {
			t.Errorf("%s: %v", name, r)
		}
	}
	sameL, sameList, sameF, sameAmounts, sameIndexes := arguments()
	if !reflect.DeepEqual(l, sameL) || !slices.Equal(list, sameList) || !sameForm(f, sameF) || !slices.Equal(amounts, sameAmounts) || !slices.Equal(indexes, sameIndexes) {
		t.Error("an argument is changed")
	}
	for i, p := range l {
		l[i].Steps = append(p.Steps, api.Step{Count: -1, Cents: -1})[:len(p.Steps)]
	}
	l = append(l, api.Price{})[:len(l)]
	list = append(list, api.Rate{})[:len(list)]
	f.Lines = append(f.Lines, api.Line{})[:len(f.Lines)]
	amounts = append(amounts, math.MaxInt)[:len(amounts)]
	indexes = append(indexes, -1)[:len(indexes)]
	if again := calls(l, list, f, amounts, indexes, 1); !reflect.DeepEqual(again, first) {
		t.Errorf("an element beyond the length is read: %v, not %v", again, first)
	}
}

// spoil writes into a list, and behind its length.
func spoil[T any](list []T, with T) {
	list = list[:cap(list)]
	for i := range list {
		list[i] = with
	}
}

// R4: results are new memory.
func TestResultsAreNew(t *testing.T) {
	l, list, f, amounts, indexes := arguments()
	text := must[string](t)(order.Format(f))
	for range 2 {
		bill, _ := must2[[]int, int](t)(order.Invoice(l, list, f))
		back, _ := must2[[]int, int](t)(order.Credit(amounts, indexes))
		merged := must[api.Form](t)(order.Merge(f))
		parsed := must[api.Form](t)(order.Parse(text))
		parts := must[[]int](t)(order.Split(10, amounts))
		if len(bill) != 4 || bill[0] != 262 || back[0] != -50 || merged.Lines[0].Count != 8 || parsed.Lines[0].Count != 4 || parts[0] != 3 {
			t.Fatalf("%v, %v, %v, %v, %v", bill, back, merged, parsed, parts)
		}
		spoil(bill, 9)
		spoil(back, 9)
		spoil(merged.Lines, api.Line{})
		spoil(parsed.Lines, api.Line{})
		spoil(parts, 9)
		sameL, sameList, sameF, sameAmounts, sameIndexes := arguments()
		if !reflect.DeepEqual(l, sameL) || !slices.Equal(list, sameList) || !sameForm(f, sameF) || !slices.Equal(amounts, sameAmounts) || !slices.Equal(indexes, sameIndexes) {
			t.Fatal("a result shares memory with an argument")
		}
	}
}

// R4: a form that has nothing to merge is a copy all the same.
func TestMergeOfNothingIsNew(t *testing.T) {
	_, f := example("EUR")
	merged := must[api.Form](t)(order.Merge(f))
	spoil(merged.Lines, api.Line{})
	if _, same := example("EUR"); !sameForm(f, same) {
		t.Error("the form shares memory with what was merged")
	}
}

// R4: an empty list and a nil list are the same.
func TestEmptyAndNil(t *testing.T) {
	one := calls(nil, nil, form("C", 0, "EUR"), nil, nil, 1)
	two := calls([]api.Price{}, []api.Rate{}, form("C", 0, "EUR", []api.Line{}...), []int{}, []int{}, 1)
	for name := range one {
		if !reflect.DeepEqual(one[name], two[name]) {
			t.Errorf("%s: %v and %v", name, one[name], two[name])
		}
	}
}

// R1: every call returns, whatever its arguments are.
func TestNoPanic(t *testing.T) {
	for _, n := range []int{0, 1, -1, 41, 1 << 31, math.MinInt, math.MaxInt} {
		for _, word := range []string{"", "A", "USD", "EUR", "\xff", strings.Repeat("A", 1<<16)} {
			l := prices(price(word, n, n, n, n, n), price("A", 0, 1, 5))
			list := rates(rate(word, n, n, n), rate("USD", 0, 1, 1))
			f := form(word, n, word, line(word, n, n, n))
			for _, numbers := range [][]int{nil, {n}, {n, n, 1}, repeated(1000, n)} {
				calls(l, list, f, numbers, numbers, n)
				calls(l[1:], list[1:], form("C", 0, "USD", line("A", 1, 1, 1)), numbers, []int{n}, n)
			}
			calls(repeated(1000, l[0]), repeated(1000, list[0]), form(word, n, word, repeated(1000, f.Lines[0])...), nil, nil, n)
			order.Price(l[1:], word, 0, 1)
			order.Cheapest(l[1:], word, 0, 1)
			order.Convert(list[1:], word, 0, n)
			order.Parse("ORDER " + word + "\nDAY 1\nIN EUR\n" + word)
		}
	}
}

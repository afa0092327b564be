package order_test

import (
	"math"
	"math/rand/v2"
	"slices"
	"testing"

	"pantoscope/api"
	"pantoscope/order"
)

// P8.5: the price is one for all pieces of the model, the amount that of the line, each line converted by itself.
func TestInvoice(t *testing.T) {
	l := prices(price("A", 0, 1, 1000, 10, 900), price("A", 8, 1, 5), price("B", 3, 1, 7, 11, 1), price("C", 0, 1, 10_000_000), price("D", 0, 1, 0))
	list := rates(rate("USD", 5, 1, 2), rate("USD", 8, 3, 1), rate("CHF", 7, 109, 100))
	for name, c := range map[string]struct {
		f       api.Form
		amounts []int
		sum     int
	}{
		"example 1":          {form("O", 7, "EUR", line("A", 1, 50, 6), line("A", 1, 50, 5)), []int{5400, 4500}, 9900},
		"other things":       {form("O", 7, "EUR", line("A", 1, 50, 6), line("B", 1, 50, 5), line("A", 2, 52, 5)), []int{5400, 35, 4500}, 9935},
		"too few":            {form("O", 7, "EUR", line("A", 1, 50, 6), line("B", 1, 50, 5), line("A", 1, 50, 3)), []int{6000, 35, 3000}, 9035},
		"a later day":        {form("O", 8, "EUR", line("A", 1, 50, 10)), []int{50}, 50},
		"half up, each line": {form("O", 5, "USD", line("B", 1, 50, 3), line("B", 1, 50, 5)), []int{11, 18}, 29},
		"rate of the day":    {form("O", 9, "USD", line("B", 1, 50, 11), line("A", 1, 50, 1)), []int{33, 15}, 48},
		"another currency":   {form("O", 7, "CHF", line("A", 1, 50, 1)), []int{1090}, 1090},
		"greatest":           {form("O", 0, "EUR", repeated(40, line("C", 9, 1, 1000))...), repeated(40, 10_000_000_000), 400_000_000_000},
		"free":               {form("O", 0, "EUR", line("D", 1, 1, 1000)), []int{0}, 0},
	} {
		amounts, sum, e := order.Invoice(l, list, c.f)
		if !slices.Equal(amounts, c.amounts) || sum != c.sum || e != api.OK {
			t.Errorf("Invoice, %s: %v, %d, %d", name, amounts, sum, e)
		}
		for i, want := range c.amounts {
			if got, e := order.Line(l, list, c.f, i); got != want || e != api.OK {
				t.Errorf("Line, %s, %d: %d, %d", name, i, got, e)
			}
		}
	}
}

// P8.5: the sum of an invoice has no limit, each of its amounts has one.
func TestInvoiceToTheLimit(t *testing.T) {
	l := prices(price("A", 0, 1, 1), price("B", 0, 1, 1<<20))
	list := rates(rate("USD", 0, 1<<10, 1))
	amounts, sum, e := order.Invoice(l, rates(rate("USD", 0, 1<<19, 1)), form("O", 0, "USD", repeated(40, line("B", 1, 1, 2))...))
	if !slices.Equal(amounts, repeated(40, api.MaxCents)) || sum != 40*api.MaxCents || e != api.OK {
		t.Errorf("%v, %d, %d", amounts, sum, e)
	}
	f := form("O", 0, "USD", line("A", 1, 1, 1), line("B", 1, 1, 1000), line("B", 1, 1, 1000))
	if amounts, sum, e := order.Invoice(l, list, f); len(amounts) != 3 || sum != 1<<10+2000<<30 || e != api.OK {
		t.Errorf("%v, %d, %d", amounts, sum, e)
	}
	dear := rates(rate("USD", 0, 1<<10+500, 1))
	if r := results(order.Invoice(l, dear, f)); !isError(r, api.ErrLimit) {
		t.Errorf("Invoice: %v", r)
	}
	if r := results(order.Line(l, dear, f, 1)); !isError(r, api.ErrLimit) {
		t.Errorf("Line: %v", r)
	}
	if got, e := order.Line(l, dear, f, 0); got != 1<<10+500 || e != api.OK {
		t.Errorf("a line beside one with an error: %d, %d", got, e)
	}
}

// expectLine expects an error of a line, and of the invoice whose first error it is.
func expectLine(t *testing.T, l []api.Price, list []api.Rate, f api.Form, i int, want api.Errno) {
	t.Helper()
	if r := results(order.Line(l, list, f, i)); !isError(r, want) {
		t.Errorf("Line(%v, %v, %v, %d): %v", l, list, f, i, r)
	}
	if want == api.ErrArg {
		return
	}
	if r := results(order.Invoice(l, list, f)); !isError(r, want) {
		t.Errorf("Invoice(%v, %v, %v): %v", l, list, f, r)
	}
}

// P8.5: the errors, in their order.
func TestErrorsOfInvoices(t *testing.T) {
	l, good := example("EUR")
	var badForm api.Form
	for _, bad := range badPrices() {
		expectLine(t, bad, nil, good, 0, api.ErrPrices)
		expectLine(t, bad, manyRates(61), badForm, -1, api.ErrPrices)
	}
	for _, bad := range badRates() {
		expectLine(t, l, bad, good, 0, api.ErrRate)
		expectLine(t, nil, bad, badForm, -1, api.ErrRate)
	}
	for _, bad := range badForms() {
		expectLine(t, l, nil, bad, 0, api.ErrForm)
		expectLine(t, nil, nil, bad, -1, api.ErrForm)
	}
	for _, i := range []int{-1, 2, math.MinInt, math.MaxInt} {
		expectLine(t, l, nil, good, i, api.ErrArg)
		expectLine(t, nil, nil, good, i, api.ErrArg)
	}
	_, abroad := example("USD")
	for _, f := range []api.Form{good, abroad} {
		expectLine(t, nil, nil, f, 0, api.ErrPrice)
		expectLine(t, prices(price("A", 8, 1, 5)), nil, f, 1, api.ErrPrice)
	}
	expectLine(t, l, nil, abroad, 0, api.ErrRate)
	expectLine(t, l, rates(rate("USD", 8, 1, 1), rate("CHF", 0, 1, 1)), abroad, 1, api.ErrRate)
}

// P8.5: an invoice has the error of the first line that has one.
func TestFirstErrorOfInvoice(t *testing.T) {
	l := prices(price("A", 0, 1, 1), price("B", 0, 1, 1<<20))
	huge := rates(rate("USD", 0, 1_000_000, 1))
	a, tooMuch, none := line("A", 1, 1, 1), line("B", 1, 1, 1000), line("C", 1, 1, 1)
	for _, c := range []struct {
		list  []api.Rate
		lines []api.Line
		want  api.Errno
	}{
		{huge, []api.Line{a, none, tooMuch}, api.ErrPrice}, {huge, []api.Line{a, tooMuch, none}, api.ErrLimit},
		{nil, []api.Line{a, none}, api.ErrRate}, {nil, []api.Line{none, a}, api.ErrPrice},
	} {
		if r := results(order.Invoice(l, c.list, form("O", 0, "USD", c.lines...))); !isError(r, c.want) {
			t.Errorf("%v: %v", c.lines, r)
		}
	}
}

// P8.5: Line and Invoice are what the terms say.
func TestInvoiceModel(t *testing.T) {
	r := rand.New(rand.NewPCG(15, 16))
	found := map[api.Errno]int{}
	for range 10000 {
		l, list, f := randomPrices(r), randomRates(r), randomForm(r, pick(r, models(), []string{"A"}, []string{"A", "B", "D"})...)
		var amounts []int
		sum, first := 0, api.OK
		for i := range f.Lines {
			want, err := modelLine(l, list, f, i)
			if got, e := order.Line(l, list, f, i); got != want || e != err {
				t.Fatalf("Line(%v, %v, %v, %d): %d, %d, not %d, %d", l, list, f, i, got, e, want, err)
			}
			amounts, sum = append(amounts, want), sum+want
			if first == api.OK {
				first = err
			}
		}
		if first != api.OK {
			amounts, sum = nil, 0
		}
		found[first]++
		if got, all, e := order.Invoice(l, list, f); !slices.Equal(got, amounts) || all != sum || e != first {
			t.Fatalf("Invoice(%v, %v, %v): %v, %d, %d, not %v, %d, %d", l, list, f, got, all, e, amounts, sum, first)
		}
	}
	if min(found[api.OK], found[api.ErrPrice], found[api.ErrRate]) < 500 || found[api.ErrLimit] < 50 {
		t.Errorf("%v", found)
	}
}

// P8.6: amounts with the opposite sign, in the order of the indexes.
func TestCredit(t *testing.T) {
	for _, c := range []struct {
		amounts, lines, want []int
		sum                  int
	}{
		{[]int{100, 200, -300}, []int{2, 0}, []int{300, -100}, 200}, {[]int{100, 200}, []int{0, 1}, []int{-100, -200}, -300}, {[]int{100, 200}, nil, nil, 0}, {nil, nil, nil, 0},
		{[]int{0}, []int{0}, []int{0}, 0}, {[]int{api.MaxCents, -api.MaxCents}, []int{1, 0}, []int{api.MaxCents, -api.MaxCents}, 0},
	} {
		if got, sum, e := order.Credit(c.amounts, c.lines); !slices.Equal(got, c.want) || sum != c.sum || e != api.OK {
			t.Errorf("Credit(%v, %v): %v, %d, %d", c.amounts, c.lines, got, sum, e)
		}
	}
	var all []int
	for i := range 40 {
		all = append(all, 39-i)
	}
	got, sum, e := order.Credit(repeated(40, api.MaxCents), all)
	if !slices.Equal(got, repeated(40, -api.MaxCents)) || sum != -40*api.MaxCents || e != api.OK {
		t.Errorf("Credit of 40 amounts: %v, %d, %d", got, sum, e)
	}
}

// P8.6: the errors of Credit, in their order.
func TestErrorsOfCredit(t *testing.T) {
	for _, c := range [][2][]int{
		{repeated(41, 1), {0}}, {repeated(41, 1), {-1}}, {repeated(41, math.MaxInt), nil}, {{1}, repeated(41, 0)}, {nil, repeated(41, 5)}, {{math.MaxInt}, repeated(41, 0)},
	} {
		if r := results(order.Credit(c[0], c[1])); !isError(r, api.ErrLimit) {
			t.Errorf("Credit(%v, %v): %v", c[0], c[1], r)
		}
	}
	for _, c := range [][2][]int{
		{{1, api.MaxCents + 1}, {0}}, {{-api.MaxCents - 1}, {0}}, {{1, math.MinInt}, nil}, {{math.MaxInt, 1}, {1}}, {{1, 2}, {2}}, {{1, 2}, {0, -1}}, {nil, {0}},
		{{1, 2}, {1, 0, 1}}, {{1, 2}, {0, 0}}, {{1, 2}, {math.MaxInt}}, {{1, 2}, {math.MinInt}}, {{1, 2}, repeated(40, 1)},
	} {
		if r := results(order.Credit(c[0], c[1])); !isError(r, api.ErrArg) {
			t.Errorf("Credit(%v, %v): %v", c[0], c[1], r)
		}
	}
}

// P8.6: lines of the same Model, Colour and Size are one, at the place of the first one.
func TestMerge(t *testing.T) {
	f := form("O", 7, "USD", line("B", 1, 50, 1), line("A", 1, 50, 990), line("B", 2, 50, 3), line("A", 1, 50, 4), line("B", 1, 51, 5), line("B", 1, 50, 7), line("A", 1, 50, 6))
	want := form("O", 7, "USD", line("B", 1, 50, 8), line("A", 1, 50, 1000), line("B", 2, 50, 3), line("B", 1, 51, 5))
	if got, e := order.Merge(f); !sameForm(got, want) || e != api.OK {
		t.Errorf("Merge: %v, %d", got, e)
	}
	f.Lines[3].Count++
	if r := results(order.Merge(f)); !isError(r, api.ErrLimit) {
		t.Errorf("Merge to 1001: %v", r)
	}
	if r := results(order.Merge(form("O", 7, "USD", repeated(40, line("A", 9, 1, 1000))...))); !isError(r, api.ErrLimit) {
		t.Errorf("Merge to 40000: %v", r)
	}
	if got, e := order.Merge(form("O", 7, "USD", repeated(40, line("A", 9, 1, 25))...)); !sameForm(got, form("O", 7, "USD", line("A", 9, 1, 1000))) || e != api.OK {
		t.Errorf("Merge of 40 lines: %v, %d", got, e)
	}
	for name, bad := range badForms() {
		if r := results(order.Merge(bad)); !isError(r, api.ErrForm) {
			t.Errorf("Merge, %s: %v", name, r)
		}
	}
	bad := form("O", 7, "usd", line("A", 1, 50, 1000), line("A", 1, 50, 1000))
	if r := results(order.Merge(bad)); !isError(r, api.ErrForm) {
		t.Errorf("Merge of a bad form to 2000: %v", r)
	}
}

// P8.6: what is merged has each thing once, at its first place, with all its pieces.
func TestMergeModel(t *testing.T) {
	r := rand.New(rand.NewPCG(17, 18))
	found := map[api.Errno]int{}
	for range 5000 {
		f := randomForm(r, pick(r, models(), []string{"A"})...)
		want, err := form(f.Customer, f.Day, f.Currency), api.OK
		for i, l := range f.Lines {
			same := func(other api.Line) bool {
				return other.Model == l.Model && other.Colour == l.Colour && other.Size == l.Size
			}
			if slices.IndexFunc(f.Lines, same) != i {
				continue
			}
			l.Count = 0
			for _, other := range f.Lines {
				if same(other) {
					l.Count += other.Count
				}
			}
			if l.Count > 1000 {
				err = api.ErrLimit
			}
			want.Lines = append(want.Lines, l)
		}
		if err != api.OK {
			want = api.Form{}
		}
		found[err]++
		if got, e := order.Merge(f); !sameForm(got, want) || e != err {
			t.Fatalf("Merge(%v): %v, %d, not %v, %d", f, got, e, want, err)
		}
	}
	if min(found[api.OK], found[api.ErrLimit]) < 500 {
		t.Errorf("%v", found)
	}
}

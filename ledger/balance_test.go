package ledger_test

import (
	"math"
	"math/rand/v2"
	"slices"
	"testing"

	"pantoscope/api"
	"pantoscope/ledger"
)

// wildDays are no days.
var wildDays = []int{-1, api.MaxDay + 1, math.MinInt, math.MaxInt}

// P9.3: an invoice adds its Cents, a payment and a credit take them away, a return does nothing, each from its Day on.
func TestBalance(t *testing.T) {
	const most = 1_000_000_000
	var dear []api.Entry
	for ref := range 200 {
		dear = append(dear, credit(ref+1, api.MaxDay, most))
	}
	for _, c := range []struct {
		b         []api.Entry
		day, want int
	}{
		{nil, 0, 0}, {nil, api.MaxDay, 0},
		{example(), 0, 0}, {example(), 2, 0}, {example(), 3, 1000}, {example(), 4, 1000}, {example(), 5, 600}, {example(), 8, 600}, {example(), 9, 0}, {example(), api.MaxDay, 0},
		{book(invoice(1, 0, 70), back(1, 0)), 0, 70},
		{book(pay(1, 2, 70), back(1, 2), credit(2, 3, 1)), 2, -70}, {book(pay(1, 2, 70), back(1, 2), credit(2, 3, 1)), 3, -71},
		{dear, api.MaxDay, -200 * most}, {dear, api.MaxDay - 1, 0},
	} {
		if got, e := ledger.Balance(c.b, c.day); got != c.want || e != api.OK {
			t.Errorf("Balance(%v, %d): %d, %d", c.b, c.day, got, e)
		}
	}
	for _, day := range wildDays {
		if r := results(ledger.Balance(example(), day)); !isError(r, api.ErrArg) {
			t.Errorf("Balance on day %d: %v", day, r)
		}
	}
}

// P9.3: Running has each day with an entry that is no return, also if the balance stays.
func TestRunning(t *testing.T) {
	for _, c := range []struct {
		b    []api.Entry
		want [][2]int
	}{
		{nil, nil},
		{example(), [][2]int{{3, 1000}, {5, 600}, {9, 0}}},
		{book(back(1, 0), back(2, 9)), nil},
		{book(back(1, 0), pay(3, api.MaxDay, 5), back(2, 9)), [][2]int{{api.MaxDay, -5}}},
		{book(invoice(1, 4, 50), pay(2, 4, 50), back(3, 4)), [][2]int{{4, 0}}},
		{book(invoice(1, 4, 50), pay(2, 0, 20), invoice(3, 4, 5), credit(1, 2, 10), back(1, 3)), [][2]int{{0, -20}, {2, -30}, {4, 25}}},
	} {
		if got, e := ledger.Running(c.b); !slices.Equal(got, c.want) || e != api.OK {
			t.Errorf("Running(%v): %v, %d", c.b, got, e)
		}
	}
}

// P9.3: Balance and Running, held against the terms.
func TestBalanceOfRandomBooks(t *testing.T) {
	r := rand.New(rand.NewPCG(3, 4))
	for range 2000 {
		b := randomBook(r, pick(r, 8, 40, 200))
		days := map[int]bool{}
		for _, e := range b {
			if e.Kind != api.EntryReturn {
				days[e.Day] = true
			}
		}
		last := -1
		list := must[[][2]int](t)(ledger.Running(b))
		for _, point := range list {
			day := point[0]
			if !days[day] || day <= last || point[1] != modelBalance(b, day) || len(list) != len(days) {
				t.Fatalf("Running(%v): %v", b, list)
			}
			last = day
		}
		day := pick(r, r.IntN(8), r.IntN(api.MaxDay+1))
		if got := must[int](t)(ledger.Balance(b, day)); got != modelBalance(b, day) {
			t.Fatalf("Balance(%v, %d): %d", b, day, got)
		}
	}
}

// P9.4: an invoice is settled if what is paid and credited is enough, on the day.
func TestSettled(t *testing.T) {
	for _, c := range []struct {
		b        []api.Entry
		ref, day int
		want     bool
	}{
		{example(), 7, 9, true}, {example(), 7, 8, false}, {example(), 7, 0, false}, {example(), 7, api.MaxDay, true},
		{book(invoice(1, 3, 50)), 1, api.MaxDay, false},
		{book(invoice(1, 3, 50), pay(1, 4, 50)), 1, 4, true}, {book(invoice(1, 3, 50), pay(1, 4, 50)), 1, 3, false}, {book(invoice(1, 3, 50), pay(1, 4, 49)), 1, 4, false}, {book(invoice(1, 3, 50), credit(1, 4, 51)), 1, 4, true},
		{book(invoice(1, 3, 50), pay(2, 4, 50), credit(2, 4, 50), invoice(2, 3, 5)), 1, 9, false},
		{book(invoice(1, 3, 50), back(1, 4)), 1, 9, false},
		{book(invoice(1, 9, 50), pay(1, 2, 50)), 1, 2, true},
		{book(invoice(1, 0, 1_000_000_000), pay(1, 0, 1_000_000_000), credit(1, 0, 1_000_000_000)), 1, 0, true},
	} {
		if got, e := ledger.Settled(c.b, c.ref, c.day); got != c.want || e != api.OK {
			t.Errorf("Settled(%v, %d, %d): %v, %d", c.b, c.ref, c.day, got, e)
		}
	}
	paid := book(pay(5, 1, 5), credit(5, 1, 5), back(5, 1), invoice(6, 1, 5))
	for _, ref := range []int{5, 7, 0, -1, math.MinInt, math.MaxInt} {
		if r := results(ledger.Settled(paid, ref, 9)); !isError(r, api.ErrNone) {
			t.Errorf("Settled(%d): %v", ref, r)
		}
		for _, day := range wildDays {
			if r := results(ledger.Settled(paid, ref, day)); !isError(r, api.ErrArg) {
				t.Errorf("Settled(%d, %d): %v", ref, day, r)
			}
		}
	}
	if r := results(ledger.Settled(example(), 7, -1)); !isError(r, api.ErrArg) {
		t.Errorf("Settled on day -1: %v", r)
	}
}

// P9.4: Due has the invoices of day - after and before that are not settled on the day.
func TestDue(t *testing.T) {
	b := book(invoice(9, 3, 50), invoice(2, 4, 50), pay(2, 6, 50), invoice(5, 3, 50), credit(5, 6, 49), invoice(4, 0, 5), pay(4, 0, 9), pay(8, 0, 5), back(9, 3))
	for _, c := range []struct {
		b          []api.Entry
		day, after int
		want       []int
	}{
		{nil, 0, 0, nil}, {nil, api.MaxDay, 1000, nil},
		{b, 0, 0, nil}, {b, 2, 0, nil}, {b, 3, 0, []int{5, 9}}, {b, 4, 0, []int{2, 5, 9}}, {b, 4, 1, []int{5, 9}}, {b, 5, 1, []int{2, 5, 9}}, {b, 5, 3, nil}, {b, 6, 1, []int{5, 9}},
		{b, 999, 1000, nil}, {b, 1003, 1000, []int{5, 9}}, {b, 1002, 1000, nil}, {b, api.MaxDay, 0, []int{5, 9}},
		{many(12), api.MaxDay, 1000, []int{1, 2, 3, 4, 5, 6, 7, 8, 9, 10, 11, 12}},
	} {
		if got, e := ledger.Due(c.b, c.day, c.after); !slices.Equal(got, c.want) || e != api.OK {
			t.Errorf("Due(%v, %d, %d): %v, %d", c.b, c.day, c.after, got, e)
		}
	}
	for _, day := range wildDays {
		if r := results(ledger.Due(b, day, 0)); !isError(r, api.ErrArg) {
			t.Errorf("Due on day %d: %v", day, r)
		}
	}
	for _, after := range []int{-1, 1001, math.MinInt, math.MaxInt} {
		if r := results(ledger.Due(b, api.MaxDay, after)); !isError(r, api.ErrArg) {
			t.Errorf("Due after %d: %v", after, r)
		}
	}
}

// P9.4: Settled and Due, held against the terms.
func TestDueOfRandomBooks(t *testing.T) {
	r := rand.New(rand.NewPCG(5, 6))
	dues := 0
	for range 3000 {
		b := randomBook(r, pick(r, 8, 40, 200))
		day, after := pick(r, r.IntN(8), r.IntN(api.MaxDay+1)), pick(r, r.IntN(4), r.IntN(1001))
		var want []int
		for _, e := range modelSorted(b) {
			if e.Kind != api.EntryInvoice {
				continue
			}
			settled := modelSettled(b, e.Ref, day)
			if got := must[bool](t)(ledger.Settled(b, e.Ref, day)); got != settled {
				t.Fatalf("Settled(%v, %d, %d): %v", b, e.Ref, day, got)
			}
			if e.Day+after <= day && !settled {
				want = append(want, e.Ref)
			}
		}
		dues += len(want)
		if got := must[[]int](t)(ledger.Due(b, day, after)); !slices.Equal(got, want) {
			t.Fatalf("Due(%v, %d, %d): %v, not %v", b, day, after, got, want)
		}
	}
	if dues < 1000 {
		t.Errorf("only %d invoices were due", dues)
	}
}

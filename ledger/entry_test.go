package ledger_test

import (
	"math/rand/v2"
	"slices"
	"testing"

	"pantoscope/api"
	"pantoscope/ledger"
)

// P9.2: books, up to all their limits.
func TestValid(t *testing.T) {
	const most = 1_000_000_000
	for name, b := range map[string][]api.Entry{
		"none":            nil,
		"example 1":       example(),
		"greatest":        book(invoice(most, api.MaxDay, most), pay(most, api.MaxDay, most), credit(most, api.MaxDay, most), back(most, api.MaxDay)),
		"least":           book(invoice(1, 0, 1), pay(1, 0, 1), credit(1, 0, 1), back(1, 0)),
		"same kind":       book(pay(1, 3, 5), pay(2, 3, 5)),
		"no invoice":      book(pay(1, 3, 5), credit(1, 3, 5), back(1, 4)),
		"paid before":     book(invoice(1, 9, 5), pay(1, 3, 5)),
		"paid too much":   book(invoice(1, 3, 5), pay(1, 3, 50)),
		"200 entries":     many(200),
		"200 of any kind": append(many(197), pay(1, 3, 5), credit(1, 3, 5), back(1, 3)),
	} {
		if !ledger.Valid(b) {
			t.Errorf("%s: not valid", name)
		}
	}
	for _, b := range badBooks() {
		if ledger.Valid(b) {
			t.Errorf("%v is valid", b)
		}
	}
}

// P9.2: Sorted is by Kind, and of these by Ref; Day and Cents play no part.
func TestSorted(t *testing.T) {
	for _, c := range []struct{ b, want []api.Entry }{
		{nil, nil},
		{example(), book(invoice(7, 3, 1000), pay(7, 5, 400), credit(7, 9, 600))},
		{book(back(1, 0), pay(1, 0, 1), invoice(1, 0, 1), credit(1, 0, 1)), book(invoice(1, 0, 1), pay(1, 0, 1), credit(1, 0, 1), back(1, 0))},
		{book(pay(9, 1, 1), invoice(10, 2, 5), pay(2, 3, 9), invoice(9, 8, 7)), book(invoice(9, 8, 7), invoice(10, 2, 5), pay(2, 3, 9), pay(9, 1, 1))},
	} {
		if got, e := ledger.Sorted(c.b); !slices.Equal(got, c.want) || e != api.OK {
			t.Errorf("Sorted(%v): %v, %d", c.b, got, e)
		}
	}
	r := rand.New(rand.NewPCG(1, 2))
	for range 1000 {
		b := randomBook(r, pick(r, 8, 40, 200))
		if got := must[[]api.Entry](t)(ledger.Sorted(b)); !slices.Equal(got, modelSorted(b)) {
			t.Fatalf("Sorted(%v): %v", b, got)
		}
	}
}

// P9.2: Add returns the book, Sorted, with the entry.
func TestAdd(t *testing.T) {
	for _, c := range []struct {
		b    []api.Entry
		e    api.Entry
		want []api.Entry
	}{
		{nil, back(5, 5), book(back(5, 5))},
		{example(), invoice(6, 9, 1), book(invoice(6, 9, 1), invoice(7, 3, 1000), pay(7, 5, 400), credit(7, 9, 600))},
		{example(), pay(8, 0, 1), book(invoice(7, 3, 1000), pay(7, 5, 400), pay(8, 0, 1), credit(7, 9, 600))},
		{example(), back(7, 10), book(invoice(7, 3, 1000), pay(7, 5, 400), credit(7, 9, 600), back(7, 10))},
	} {
		if got, e := ledger.Add(c.b, c.e); !slices.Equal(got, c.want) || e != api.OK {
			t.Errorf("Add(%v, %v): %v, %d", c.b, c.e, got, e)
		}
	}
	if got, e := ledger.Add(many(199), pay(1, 1, 1)); len(got) != 200 || got[0] != invoice(1, 198, 100) || got[199] != pay(1, 1, 1) || e != api.OK {
		t.Errorf("Add to 199 entries: %v, %d", got, e)
	}
}

// P9.2: the errors of Add, in their order.
func TestAddErrors(t *testing.T) {
	for _, c := range []struct {
		b    []api.Entry
		e    api.Entry
		want api.Errno
	}{
		{example(), invoice(7, 3, 1000), api.ErrThere},
		{example(), credit(7, 1, 5), api.ErrThere},
		{book(back(7, 3)), back(7, 4), api.ErrThere},
		{many(200), invoice(200, 5, 5), api.ErrThere},
		{many(200), invoice(201, 5, 5), api.ErrLimit},
		{many(200), pay(200, 5, 5), api.ErrLimit},
		{many(200), invoice(200, 5, 0), api.ErrEntry},
		{many(200), invoice(201, -1, 5), api.ErrEntry},
		{many(201), invoice(1, 5, 5), api.ErrEntry},
		{many(201), invoice(300, 5, 5), api.ErrEntry},
	} {
		if r := results(ledger.Add(c.b, c.e)); !isError(r, c.want) {
			t.Errorf("Add to %d entries, %v: %v", len(c.b), c.e, r)
		}
	}
	for _, e := range badEntries() {
		if r := results(ledger.Add(example(), e)); !isError(r, api.ErrEntry) {
			t.Errorf("Add(%v): %v", e, r)
		}
	}
	for _, b := range badBooks() {
		if r := results(ledger.Add(b, back(4321, 5))); !isError(r, api.ErrEntry) {
			t.Errorf("Add to %v: %v", b, r)
		}
	}
}

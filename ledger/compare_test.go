package ledger_test

import (
	"math/rand/v2"
	"slices"
	"testing"

	"pantoscope/api"
	"pantoscope/ledger"
)

func mine(e api.Entry) api.Diff     { return api.Diff{Kind: api.DiffMine, Mine: e} }
func theirs(e api.Entry) api.Diff   { return api.Diff{Kind: api.DiffTheirs, Theirs: e} }
func other(e, f api.Entry) api.Diff { return api.Diff{Kind: api.DiffOther, Mine: e, Theirs: f} }

func diffs(list ...api.Diff) []api.Diff { return list }

// sides are two books with entries of one of them, of both, and such as differ.
func sides() (a, b []api.Entry) {
	a = book(back(9, 1), pay(3, 4, 5), invoice(10, 1, 7), credit(1, 2, 5), invoice(2, 1, 7))
	b = book(invoice(2, 1, 8), credit(1, 2, 5), pay(2, 2, 2), invoice(11, 1, 7), back(9, 2), invoice(9, 1, 7))
	return a, b
}

// P9.5: the differences are in the order of entries, with zero for a side that has none.
func TestCompare(t *testing.T) {
	a, b := sides()
	changed := example()
	changed[1].Cents = 500
	for name, c := range map[string]struct {
		a, b []api.Entry
		want []api.Diff
	}{
		"none":        {nil, nil, nil},
		"the same":    {example(), book(pay(7, 5, 400), credit(7, 9, 600), invoice(7, 3, 1000)), nil},
		"example 2":   {example(), changed, diffs(other(pay(7, 5, 400), pay(7, 5, 500)))},
		"another day": {book(pay(7, 5, 400)), book(pay(7, 6, 400)), diffs(other(pay(7, 5, 400), pay(7, 6, 400)))},
		"mine":        {example(), nil, diffs(mine(invoice(7, 3, 1000)), mine(pay(7, 5, 400)), mine(credit(7, 9, 600)))},
		"theirs":      {nil, example(), diffs(theirs(invoice(7, 3, 1000)), theirs(pay(7, 5, 400)), theirs(credit(7, 9, 600)))},
		"other kinds": {book(pay(7, 5, 400)), book(credit(7, 5, 400)), diffs(mine(pay(7, 5, 400)), theirs(credit(7, 5, 400)))},
		"other refs":  {book(back(7, 5)), book(back(6, 5)), diffs(theirs(back(6, 5)), mine(back(7, 5)))},
		"all":         {a, b, diffs(other(invoice(2, 1, 7), invoice(2, 1, 8)), theirs(invoice(9, 1, 7)), mine(invoice(10, 1, 7)), theirs(invoice(11, 1, 7)), theirs(pay(2, 2, 2)), mine(pay(3, 4, 5)), other(back(9, 1), back(9, 2)))},
	} {
		if got, e := ledger.Compare(c.a, c.b); !slices.Equal(got, c.want) || e != api.OK {
			t.Errorf("Compare, %s: %v, %d", name, got, e)
		}
	}
}

// P9.5: two full books have up to 400 differences.
func TestCompareFullBooks(t *testing.T) {
	a, b := many(200), many(200)
	for i := range b {
		b[i].Kind = api.EntryPay
	}
	if got, e := ledger.Compare(a, b); len(got) != 400 || got[0] != mine(a[199]) || got[399] != theirs(b[0]) || e != api.OK {
		t.Errorf("%v, %d", got, e)
	}
}

// P9.5: Agreed has the entries of both, with all fields the same.
func TestAgreed(t *testing.T) {
	a, b := sides()
	for _, c := range []struct{ a, b, want []api.Entry }{
		{nil, nil, nil}, {example(), nil, nil}, {nil, example(), nil},
		{a, b, book(credit(1, 2, 5))},
		{example(), example(), book(invoice(7, 3, 1000), pay(7, 5, 400), credit(7, 9, 600))},
		{book(pay(7, 5, 400), back(7, 5), back(3, 1)), book(credit(7, 5, 400), back(3, 1), back(7, 5)), book(back(3, 1), back(7, 5))},
		{book(pay(7, 5, 400), invoice(7, 5, 400)), book(pay(7, 6, 400), invoice(7, 5, 401)), nil},
	} {
		if got, e := ledger.Agreed(c.a, c.b); !slices.Equal(got, c.want) || e != api.OK {
			t.Errorf("Agreed(%v, %v): %v, %d", c.a, c.b, got, e)
		}
	}
}

// P9.5: Join has the entries of one or both, but for those that differ.
func TestJoin(t *testing.T) {
	a, b := sides()
	for _, c := range []struct {
		a, b, want []api.Entry
		others     []api.Diff
	}{
		{nil, nil, nil, nil},
		{example(), nil, book(invoice(7, 3, 1000), pay(7, 5, 400), credit(7, 9, 600)), nil},
		{nil, example(), book(invoice(7, 3, 1000), pay(7, 5, 400), credit(7, 9, 600)), nil},
		{example(), example(), book(invoice(7, 3, 1000), pay(7, 5, 400), credit(7, 9, 600)), nil},
		{book(back(1, 1)), book(back(1, 2)), nil, diffs(other(back(1, 1), back(1, 2)))},
		{a, b, book(invoice(9, 1, 7), invoice(10, 1, 7), invoice(11, 1, 7), pay(2, 2, 2), pay(3, 4, 5), credit(1, 2, 5)), diffs(other(invoice(2, 1, 7), invoice(2, 1, 8)), other(back(9, 1), back(9, 2)))},
	} {
		got, others, e := ledger.Join(c.a, c.b)
		if !slices.Equal(got, c.want) || !slices.Equal(others, c.others) || e != api.OK {
			t.Errorf("Join(%v, %v): %v, %v, %d", c.a, c.b, got, others, e)
		}
	}
}

// P9.5: ErrLimit counts the entries of the result alone, not those that are twice, nor those that differ.
func TestJoinToTheLimit(t *testing.T) {
	a := many(200)
	for _, b := range [][]api.Entry{nil, many(200), a[:100]} {
		if got, others, e := ledger.Join(a, b); len(got) != 200 || len(others) != 0 || e != api.OK {
			t.Errorf("Join of 200 and %d: %d, %d, %d", len(b), len(got), len(others), e)
		}
	}
	changed := slices.Clone(a)
	for i := range changed {
		changed[i].Cents++
	}
	if got, others, e := ledger.Join(a, changed); len(got) != 0 || len(others) != 200 || e != api.OK {
		t.Errorf("Join of 200 that differ: %d, %d, %d", len(got), len(others), e)
	}
	if got, others, e := ledger.Join(a, book(pay(1, 1, 1), changed[0])); len(got) != 200 || len(others) != 1 || e != api.OK {
		t.Errorf("Join of one that differs and one more: %d, %d, %d", len(got), len(others), e)
	}
	for _, b := range [][]api.Entry{book(pay(1, 1, 1)), book(pay(1, 1, 1), pay(2, 1, 1), changed[0])} {
		if r := results(ledger.Join(a, b)); !isError(r, api.ErrLimit) {
			t.Errorf("Join of 201: %v", r)
		}
		if r := results(ledger.Join(b, a)); !isError(r, api.ErrLimit) {
			t.Errorf("Join of 201: %v", r)
		}
	}
}

// P9.5: Since has the entries of the book, also those that are changed.
func TestSince(t *testing.T) {
	a, b := sides()
	for _, c := range []struct{ old, b, want []api.Entry }{
		{nil, nil, nil}, {example(), nil, nil}, {example(), example(), nil},
		{nil, example(), book(invoice(7, 3, 1000), pay(7, 5, 400), credit(7, 9, 600))},
		{a, b, book(invoice(2, 1, 8), invoice(9, 1, 7), invoice(11, 1, 7), pay(2, 2, 2), back(9, 2))},
		{b, a, book(invoice(2, 1, 7), invoice(10, 1, 7), pay(3, 4, 5), back(9, 1))},
	} {
		if got, e := ledger.Since(c.old, c.b); !slices.Equal(got, c.want) || e != api.OK {
			t.Errorf("Since(%v, %v): %v, %d", c.old, c.b, got, e)
		}
	}
}

// P9.5: the comparisons of random books, held against the terms.
func TestComparisonsOfRandomBooks(t *testing.T) {
	r := rand.New(rand.NewPCG(7, 8))
	kinds := map[int]int{}
	for range 2000 {
		a := randomBook(r, pick(r, 8, 40, 100))
		b := neighbour(r, a)
		list := modelCompare(a, b)
		if got := must[[]api.Diff](t)(ledger.Compare(a, b)); !slices.Equal(got, list) {
			t.Fatalf("Compare(%v, %v): %v, not %v", a, b, got, list)
		}
		var others []api.Diff
		joined, same, newer := slices.Clone(a), slices.Clone(a), slices.Clone(b)
		remove := func(from []api.Entry, e api.Entry) []api.Entry {
			return slices.DeleteFunc(from, func(f api.Entry) bool { return e == f })
		}
		for _, d := range list {
			kinds[d.Kind]++
			same = remove(same, d.Mine)
			switch d.Kind {
			case api.DiffTheirs:
				joined = append(joined, d.Theirs)
			case api.DiffOther:
				others, joined = append(others, d), remove(joined, d.Mine)
			}
		}
		for _, e := range same {
			newer = remove(newer, e)
		}
		if got := must[[]api.Entry](t)(ledger.Agreed(a, b)); !slices.Equal(got, modelSorted(same)) {
			t.Fatalf("Agreed(%v, %v): %v", a, b, got)
		}
		if got := must[[]api.Entry](t)(ledger.Since(a, b)); !slices.Equal(got, modelSorted(newer)) {
			t.Fatalf("Since(%v, %v): %v", a, b, got)
		}
		if got, open := must2[[]api.Entry, []api.Diff](t)(ledger.Join(a, b)); !slices.Equal(got, modelSorted(joined)) || !slices.Equal(open, others) {
			t.Fatalf("Join(%v, %v): %v, %v", a, b, got, open)
		}
	}
	if len(kinds) != 3 || kinds[api.DiffMine] < 1000 || kinds[api.DiffTheirs] < 1000 || kinds[api.DiffOther] < 1000 {
		t.Errorf("differences of each kind: %v", kinds)
	}
}

package ledger_test

import (
	"math/rand/v2"
	"slices"
	"testing"

	"pantoscope/api"
	"pantoscope/ledger"
)

// P9.10: Balance at the greatest day is the last one of Running; an entry changes Balance by what it does, from its Day on.
func TestBalanceBehindAll(t *testing.T) {
	r := rand.New(rand.NewPCG(15, 16))
	for range 2000 {
		b := randomBook(r, pick(r, 8, 40, 150))
		last := 0
		if list := must[[][2]int](t)(ledger.Running(b)); len(list) > 0 {
			last = list[len(list)-1][1]
		}
		if got := must[int](t)(ledger.Balance(b, api.MaxDay)); got != last {
			t.Fatalf("Balance(%v): %d, not %d", b, got, last)
		}
		e := randomEntry(r)
		more, err := ledger.Add(b, e)
		if (err == api.ErrThere) != has(b, e) || err != api.OK && err != api.ErrThere {
			t.Fatalf("Add(%v, %v): error %d", b, e, err)
		}
		if err != api.OK {
			continue
		}
		for _, day := range []int{0, max(e.Day-1, 0), e.Day, api.MaxDay} {
			change := 0
			if day >= e.Day {
				change = does(e)
			}
			before, behind := must[int](t)(ledger.Balance(b, day)), must[int](t)(ledger.Balance(more, day))
			if behind != before+change {
				t.Fatalf("Balance(%v, %d) is %d, and with %v %d", b, day, before, e, behind)
			}
		}
	}
}

// P9.10: an invoice that is settled stays settled: on later days, and with more entries.
func TestSettledStays(t *testing.T) {
	r := rand.New(rand.NewPCG(17, 18))
	settled := 0
	for range 2000 {
		b := randomBook(r, 40)
		day := r.IntN(8)
		for _, e := range b {
			if e.Kind != api.EntryInvoice || !must[bool](t)(ledger.Settled(b, e.Ref, day)) {
				continue
			}
			settled++
			later := day + r.IntN(api.MaxDay-day+1)
			if !must[bool](t)(ledger.Settled(b, e.Ref, later)) {
				t.Fatalf("%v of %v is settled on day %d, but not on day %d", e, b, day, later)
			}
			more, err := ledger.Add(b, randomEntry(r))
			if err == api.OK && !must[bool](t)(ledger.Settled(more, e.Ref, day)) {
				t.Fatalf("%v is settled in %v, but not in %v", e, b, more)
			}
		}
	}
	if settled < 500 {
		t.Errorf("only %d invoices were settled", settled)
	}
}

// exchanged are differences with their sides exchanged.
func exchanged(list []api.Diff) []api.Diff {
	var other []api.Diff
	for _, d := range list {
		kind := []int{api.DiffMine: api.DiffTheirs, api.DiffTheirs: api.DiffMine, api.DiffOther: api.DiffOther}[d.Kind]
		other = append(other, api.Diff{Kind: kind, Mine: d.Theirs, Theirs: d.Mine})
	}
	return other
}

// P9.11: a book has no differences from itself, two books have those of the exchanged ones, and none exactly if they are the same.
func TestCompareIsFair(t *testing.T) {
	r := rand.New(rand.NewPCG(19, 20))
	same := 0
	for range 2000 {
		a := randomBook(r, pick(r, 3, 8, 100))
		b := neighbour(r, a)
		if list := must[[]api.Diff](t)(ledger.Compare(a, mixed(r, a))); len(list) != 0 {
			t.Fatalf("Compare of %v with itself: %v", a, list)
		}
		list := must[[]api.Diff](t)(ledger.Compare(a, b))
		if back := must[[]api.Diff](t)(ledger.Compare(b, a)); !slices.Equal(back, exchanged(list)) {
			t.Fatalf("Compare(%v, %v): %v, but exchanged %v", a, b, list, back)
		}
		equal := slices.Equal(must[[]api.Entry](t)(ledger.Sorted(a)), must[[]api.Entry](t)(ledger.Sorted(b)))
		if equal != (len(list) == 0) {
			t.Fatalf("Compare(%v, %v): %v", a, b, list)
		}
		if equal {
			same++
		}
	}
	if same < 50 || same > 1500 {
		t.Errorf("%d pairs of books were the same", same)
	}
}

// P9.11: Agreed, and the entries that Compare names, are all entries of both.
func TestAgreedAndDifferences(t *testing.T) {
	r := rand.New(rand.NewPCG(21, 22))
	for range 2000 {
		a := randomBook(r, pick(r, 3, 8, 100))
		b := neighbour(r, a)
		agreed := must[[]api.Entry](t)(ledger.Agreed(a, b))
		mine, theirs := slices.Clone(agreed), slices.Clone(agreed)
		for _, d := range must[[]api.Diff](t)(ledger.Compare(a, b)) {
			if d.Kind != api.DiffTheirs {
				mine = append(mine, d.Mine)
			}
			if d.Kind != api.DiffMine {
				theirs = append(theirs, d.Theirs)
			}
		}
		if !slices.Equal(modelSorted(mine), modelSorted(a)) || !slices.Equal(modelSorted(theirs), modelSorted(b)) {
			t.Fatalf("%v and %v: agreed on %v, with the differences %v and %v", a, b, agreed, mine, theirs)
		}
	}
}

// P9.11: Join does not depend on which book comes first, but for the sides of its differences.
func TestJoinIsFair(t *testing.T) {
	r := rand.New(rand.NewPCG(23, 24))
	limits := 0
	for range 2000 {
		a := randomBook(r, pick(r, 8, 40, 190))
		b := neighbour(r, a)
		if r.IntN(4) == 0 {
			b = many(100 + r.IntN(101))
		}
		one, others, e := ledger.Join(a, b)
		two, back, err := ledger.Join(b, a)
		if e != err || !slices.Equal(one, two) || !slices.Equal(back, exchanged(others)) {
			t.Fatalf("Join(%v, %v): %v, %v, %d, but exchanged %v, %v, %d", a, b, one, others, e, two, back, err)
		}
		if e == api.ErrLimit {
			limits++
		}
	}
	if limits < 10 || limits > 1000 {
		t.Errorf("%d pairs of books were too large together", limits)
	}
}

// P9.11: an older part of a book, joined with Since, is the book.
func TestJoinSince(t *testing.T) {
	r := rand.New(rand.NewPCG(25, 26))
	for range 2000 {
		b := randomBook(r, pick(r, 8, 40, 200))
		var old []api.Entry
		for _, e := range mixed(r, b) {
			if r.IntN(2) == 0 {
				old = append(old, e)
			}
		}
		newer := must[[]api.Entry](t)(ledger.Since(old, b))
		if len(old)+len(newer) != len(b) {
			t.Fatalf("Since(%v, %v): %v", old, b, newer)
		}
		if got, others := must2[[]api.Entry, []api.Diff](t)(ledger.Join(old, newer)); !slices.Equal(got, modelSorted(b)) || len(others) != 0 {
			t.Fatalf("Join(%v, %v): %v, %v", old, newer, got, others)
		}
	}
}

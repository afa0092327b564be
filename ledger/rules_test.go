package ledger_test

import (
	"math"
	"math/rand/v2"
	"reflect"
	"slices"
	"testing"

	"pantoscope/api"
	"pantoscope/ledger"
)

// calls are calls of all functions of books.
func calls(a, b []api.Entry, e api.Entry, ref, day, after int) map[string][]any {
	code, _ := ledger.Encode(a)
	return map[string][]any{
		"Valid":   results(ledger.Valid(a), api.OK),
		"Sorted":  results(ledger.Sorted(a)),
		"Add":     results(ledger.Add(a, e)),
		"Balance": results(ledger.Balance(a, day)),
		"Running": results(ledger.Running(a)),
		"Settled": results(ledger.Settled(a, ref, day)),
		"Due":     results(ledger.Due(a, day, after)),
		"Compare": results(ledger.Compare(a, b)),
		"Agreed":  results(ledger.Agreed(a, b)),
		"Join":    results(ledger.Join(a, b)),
		"Since":   results(ledger.Since(a, b)),
		"Encode":  results(ledger.Encode(a)),
		"Decode":  results(ledger.Decode(code)),
	}
}

// ofTwoBooks are the functions of two books.
var ofTwoBooks = []string{"Compare", "Agreed", "Join", "Since"}

// P9.1, R2: ErrEntry comes first, whatever else is wrong.
func TestErrEntryFirst(t *testing.T) {
	good := example()
	for _, bad := range badBooks() {
		for _, n := range []int{7, 9, -1, 1001, math.MinInt, math.MaxInt} {
			all := calls(bad, good, invoice(8, 1, 1), n, n, n)
			delete(all, "Valid")
			delete(all, "Decode")
			for name, r := range all {
				if !isError(r, api.ErrEntry) {
					t.Fatalf("%s(%v) with %d: %v", name, bad, n, r)
				}
			}
		}
		for _, first := range [][]api.Entry{good, nil, many(200), bad} {
			all := calls(first, bad, invoice(8, 1, 1), 7, 9, 0)
			for _, name := range ofTwoBooks {
				if !isError(all[name], api.ErrEntry) {
					t.Fatalf("%s(%v, %v): %v", name, first, bad, all[name])
				}
			}
		}
	}
}

// arguments are books for which no call has an error, or a zero result.
func arguments() (a, b []api.Entry) {
	a = append(example(), back(7, 1), invoice(3, 1, 50), pay(1, 2, 5), back(1, 1))
	b = book(pay(2, 2, 2), pay(7, 5, 400), invoice(7, 3, 999), back(2, 2), back(1, 1))
	return a, b
}

// R4: arguments are not changed, lists are read up to their length alone, and equal arguments give equal results.
func TestArgumentsStay(t *testing.T) {
	a, b := arguments()
	first := calls(a, b, credit(6, 1, 1), 7, 9, 8)
	for name, r := range first {
		if r[len(r)-1] != api.OK || reflect.ValueOf(r[0]).IsZero() {
			t.Errorf("%s: %v", name, r)
		}
	}
	sameA, sameB := arguments()
	if !slices.Equal(a, sameA) || !slices.Equal(b, sameB) {
		t.Error("an argument is changed")
	}
	code := must[[]byte](t)(ledger.Encode(a))
	again := slices.Clone(code)
	must[[]api.Entry](t)(ledger.Decode(code))
	if !slices.Equal(code, again) {
		t.Error("the bytes of Decode are changed")
	}
	a = append(a, api.Entry{}, a[0])[:len(a)]
	b = append(b, api.Entry{}, b[0])[:len(b)]
	for range 20 { // maps are gone through in another order each time
		if again := calls(a, b, credit(6, 1, 1), 7, 9, 8); !reflect.DeepEqual(again, first) {
			t.Fatalf("%v, not %v", again, first)
		}
	}
	if !slices.Equal(a, sameA) || !slices.Equal(b, sameB) {
		t.Error("an argument is changed")
	}
	for i, e := range a[len(a) : len(a)+2] {
		if e != []api.Entry{{}, a[0]}[i] {
			t.Error("an element beyond the length is changed")
		}
	}
}

// spoilAll writes into all lists of results.
func spoilAll(all map[string][]any) {
	for _, list := range all {
		for _, r := range list {
			switch l := r.(type) {
			case []api.Entry:
				spoil(l, back(99, 99))
			case []api.Diff:
				spoil(l, api.Diff{Kind: 99})
			case [][2]int:
				spoil(l, [2]int{99, 99})
			case []int:
				spoil(l, 99)
			case []byte:
				spoil(l, 99)
			}
		}
	}
}

// R4: results are new memory.
func TestResultsAreNew(t *testing.T) {
	a, b := arguments()
	sameA, sameB := arguments()
	first := calls(a, b, credit(6, 1, 1), 7, 9, 8)
	for range 2 {
		spoilAll(calls(a, b, credit(6, 1, 1), 7, 9, 8))
		if !slices.Equal(a, sameA) || !slices.Equal(b, sameB) {
			t.Fatal("a result shares memory with an argument")
		}
		if again := calls(a, b, credit(6, 1, 1), 7, 9, 8); !reflect.DeepEqual(again, first) {
			t.Fatalf("%v, not %v", again, first)
		}
	}
}

// R4: lists that are in order already, and have nothing to leave out, are copied all the same.
func TestListsInOrderAreCopied(t *testing.T) {
	a := modelSorted(example())
	for range 2 {
		all := calls(a, a, back(7, 1), 7, 9, 0)
		all["Join with none"] = results(ledger.Join(nil, a))
		all["Since nothing"] = results(ledger.Since(nil, a))
		spoilAll(all)
		if !slices.Equal(a, modelSorted(example())) {
			t.Fatal("a result shares memory with an argument")
		}
	}
}

// R4: an empty list and a nil list are the same.
func TestEmptyAndNil(t *testing.T) {
	one := calls(nil, nil, back(1, 1), 1, 1, 1)
	two := calls([]api.Entry{}, []api.Entry{}, back(1, 1), 1, 1, 1)
	for name := range one {
		if !reflect.DeepEqual(one[name], two[name]) {
			t.Errorf("%s: %v and %v", name, one[name], two[name])
		}
	}
	none, e := ledger.Decode(nil)
	empty, err := ledger.Decode([]byte{})
	if len(none)+len(empty) != 0 || e != api.OK || err != api.OK {
		t.Errorf("Decode of nothing: %v, %d and %v, %d", none, e, empty, err)
	}
}

// The order of a book plays no part.
func TestOrderOfBooks(t *testing.T) {
	r := rand.New(rand.NewPCG(27, 28))
	for range 300 {
		a := randomBook(r, pick(r, 8, 40, 100))
		b, e, day := neighbour(r, a), randomEntry(r), r.IntN(8)
		one := calls(a, b, e, e.Ref, day, 1)
		if two := calls(mixed(r, a), mixed(r, b), e, e.Ref, day, 1); !reflect.DeepEqual(one, two) {
			t.Fatalf("%v and %v: %v, but in another order %v", a, b, one, two)
		}
	}
}

// R1: every call returns, whatever its arguments are.
func TestNoPanic(t *testing.T) {
	numbers := []int{0, 1, -1, 1001, 1 << 31, math.MinInt, math.MaxInt}
	for _, n := range numbers {
		for _, m := range numbers {
			e := entry(n, m, n, m)
			for _, b := range [][]api.Entry{nil, {e}, {e, e}, append(example(), e), slices.Repeat(book(e), 1000), many(200)} {
				calls(b, example(), e, n, m, n)
				calls(example(), b, e, m, n, n)
			}
			d := ledger.NewDisk()
			for _, disk := range []*ledger.Disk{nil, {}, d} {
				disk.Arm(n, m)
				disk.Write(n, nil)
				disk.Write(1, slotBytes(uint32(n), make([]byte, 9), uint32(m)))
				disk.Read(m)
				j, _ := ledger.Open(disk)
				j.Save(nil)
				j.Save([]byte("image"))
				disk.Copy().Restart()
				disk.Restart()
				j.Save(nil)
			}
		}
	}
	for size := range 64 {
		ledger.Decode(slices.Repeat([]byte{byte(size % 5)}, size))
	}
}

package ledger_test

import (
	"encoding/binary"
	"math"
	"math/rand/v2"
	"reflect"
	"slices"
	"testing"

	"pantoscope/api"
	"pantoscope/ledger"
)

// must stops a test if a call that has to succeed does not.
func must[T any](t *testing.T) func(T, api.Errno) T {
	return func(v T, e api.Errno) T {
		t.Helper()
		if e != api.OK {
			t.Fatalf("error %d", e)
		}
		return v
	}
}

// must2 is must for calls with two results beside the error.
func must2[T, U any](t *testing.T) func(T, U, api.Errno) (T, U) {
	return func(v T, u U, e api.Errno) (T, U) {
		t.Helper()
		if e != api.OK {
			t.Fatalf("error %d", e)
		}
		return v, u
	}
}

// expect expects an error, or none.
func expect(t *testing.T, got, want api.Errno, call string) {
	t.Helper()
	if got != want {
		t.Fatalf("%s: error %d, not %d", call, got, want)
	}
}

// results are the results of a call.
func results(r ...any) []any { return r }

// isError tells whether the results are zero values and this error.
func isError(results []any, err api.Errno) bool {
	end := len(results) - 1
	for _, r := range results[:end] {
		if v := reflect.ValueOf(r); !v.IsZero() && !(v.Kind() == reflect.Slice && v.Len() == 0) {
			return false
		}
	}
	return results[end] == err
}

// pick is one of a list.
func pick[T any](r *rand.Rand, list ...T) T { return list[r.IntN(len(list))] }

// spoil writes into a list, and behind its length.
func spoil[T any](list []T, with T) {
	list = list[:cap(list)]
	for i := range list {
		list[i] = with
	}
}

func entry(kind, ref, day, cents int) api.Entry {
	return api.Entry{Kind: kind, Ref: ref, Day: day, Cents: cents}
}

func invoice(ref, day, cents int) api.Entry { return entry(api.EntryInvoice, ref, day, cents) }
func pay(ref, day, cents int) api.Entry     { return entry(api.EntryPay, ref, day, cents) }
func credit(ref, day, cents int) api.Entry  { return entry(api.EntryCredit, ref, day, cents) }
func back(ref, day int) api.Entry           { return entry(api.EntryReturn, ref, day, 0) }

func book(list ...api.Entry) []api.Entry { return list }

// example is the book of the chapter's example 1.
func example() []api.Entry {
	return book(credit(7, 9, 600), pay(7, 5, 400), invoice(7, 3, 1000))
}

// many are n invoices with Refs that fall to 1.
func many(n int) []api.Entry {
	var list []api.Entry
	for i := range n {
		list = append(list, invoice(n-i, i, 100))
	}
	return list
}

// badEntries are entries each of which has one thing wrong.
func badEntries() []api.Entry {
	list := book(
		api.Entry{}, entry(0, 5, 5, 5), entry(5, 5, 5, 5), entry(5, 5, 5, 0), entry(-1, 5, 5, 5), entry(257, 5, 5, 5),
		back(0, 5), back(1_000_000_001, 5), back(5, -1), back(5, api.MaxDay+1),
		entry(api.EntryReturn, 5, 5, 1), entry(api.EntryReturn, 5, 5, -1), entry(api.EntryReturn, 5, 5, 1_000_000_000),
	)
	for _, kind := range []int{api.EntryInvoice, api.EntryPay, api.EntryCredit} {
		list = append(list, entry(kind, 0, 5, 5), entry(kind, 1_000_000_001, 5, 5), entry(kind, 5, -1, 5), entry(kind, 5, api.MaxDay+1, 5), entry(kind, 5, 5, 0), entry(kind, 5, 5, -1), entry(kind, 5, 5, 1_000_000_001))
	}
	for _, n := range []int{math.MinInt, math.MaxInt, 1 << 32} {
		list = append(list, entry(n, 5, 5, 5), entry(1, n, 5, 5), entry(1, 5, n, 5), entry(1, 5, 5, n), entry(4, 5, 5, n))
	}
	return list
}

// badBooks are books each of which has one thing wrong.
func badBooks() [][]api.Entry {
	list := [][]api.Entry{
		many(201), make([]api.Entry, 201), append(many(200), invoice(200, 7, 7)),
		book(invoice(7, 3, 100), invoice(7, 3, 100)), book(invoice(7, 3, 100), pay(7, 3, 100), invoice(7, 4, 50)), book(back(7, 3), back(7, 4)),
		slices.Repeat(example(), 30),
	}
	for _, e := range badEntries() {
		list = append(list, book(e), append(example(), e), append(book(e), example()...))
	}
	return list
}

// randomEntry has few names and days, so that entries meet, or any.
func randomEntry(r *rand.Rand) api.Entry {
	most := pick(r, 6, 6, 6, 1_000_000_000)
	e := entry(1+r.IntN(4), 1+r.IntN(most), r.IntN(min(most, api.MaxDay)+1), 1+r.IntN(most))
	if e.Kind == api.EntryReturn {
		e.Cents = 0
	}
	return e
}

// randomBook has up to n entries with different names.
func randomBook(r *rand.Rand, n int) []api.Entry {
	var list []api.Entry
	for range r.IntN(n + 1) {
		if e := randomEntry(r); !has(list, e) {
			list = append(list, e)
		}
	}
	return list
}

// neighbour is a book that has some entries of another one, some of them changed, and some of its own.
func neighbour(r *rand.Rand, b []api.Entry) []api.Entry {
	list := randomBook(r, 4)
	for _, e := range b {
		if r.IntN(4) == 0 || has(list, e) {
			continue
		}
		if r.IntN(4) == 0 {
			e.Day = (e.Day + r.IntN(2)) % (api.MaxDay + 1)
		}
		if r.IntN(4) == 0 && e.Kind != api.EntryReturn {
			e.Cents = 1 + e.Cents%1_000_000_000
		}
		list = append(list, e)
	}
	return mixed(r, list)
}

// mixed is a copy of a book in another order.
func mixed(r *rand.Rand, b []api.Entry) []api.Entry {
	list := slices.Clone(b)
	r.Shuffle(len(list), func(i, j int) { list[i], list[j] = list[j], list[i] })
	return list
}

// named is the entry of a book with the Kind and the Ref of e, if there is one.
func named(b []api.Entry, e api.Entry) (api.Entry, bool) {
	for _, f := range b {
		if f.Kind == e.Kind && f.Ref == e.Ref {
			return f, true
		}
	}
	return api.Entry{}, false
}

func has(b []api.Entry, e api.Entry) bool {
	_, ok := named(b, e)
	return ok
}

// modelSorted takes the least entry again and again.
func modelSorted(b []api.Entry) []api.Entry {
	var list []api.Entry
	rest := slices.Clone(b)
	for len(rest) > 0 {
		least := 0
		for i, e := range rest {
			if e.Kind < rest[least].Kind || e.Kind == rest[least].Kind && e.Ref < rest[least].Ref {
				least = i
			}
		}
		list = append(list, rest[least])
		rest = slices.Delete(rest, least, least+1)
	}
	return list
}

// does is what an entry does to the balance.
func does(e api.Entry) int {
	return []int{api.EntryInvoice: e.Cents, api.EntryPay: -e.Cents, api.EntryCredit: -e.Cents, api.EntryReturn: 0}[e.Kind]
}

func modelBalance(b []api.Entry, day int) int {
	all := 0
	for _, e := range b {
		if e.Day <= day {
			all += does(e)
		}
	}
	return all
}

// modelSettled takes the Cents of what is paid and credited from those of the invoice.
func modelSettled(b []api.Entry, ref, day int) bool {
	open, _ := named(b, invoice(ref, 0, 0))
	left := open.Cents
	for _, e := range []api.Entry{pay(ref, 0, 0), credit(ref, 0, 0)} {
		if paid, ok := named(b, e); ok && paid.Day <= day {
			left -= paid.Cents
		}
	}
	return left <= 0
}

// modelCompare looks for each entry of both books in the other one.
func modelCompare(a, b []api.Entry) []api.Diff {
	var list []api.Diff
	for _, e := range modelSorted(append(slices.Clone(a), b...)) {
		mine, in := named(a, e)
		theirs, there := named(b, e)
		d := api.Diff{Kind: api.DiffOther, Mine: mine, Theirs: theirs}
		if !there {
			d.Kind = api.DiffMine
		}
		if !in {
			d.Kind = api.DiffTheirs
		}
		if mine != theirs && !slices.Contains(list, d) {
			list = append(list, d)
		}
	}
	return list
}

// modelEncoding writes 13 bytes for each entry.
func modelEncoding(b []api.Entry) []byte {
	var bytes []byte
	for _, e := range modelSorted(b) {
		bytes = append(bytes, byte(e.Kind))
		for _, n := range []int{e.Ref, e.Day, e.Cents} {
			bytes = binary.BigEndian.AppendUint32(bytes, uint32(n))
		}
	}
	return bytes
}

// slotBytes are those of a slot with the length n of an image, the image, and a turn.
func slotBytes(n uint32, image []byte, turn uint32) []byte {
	bytes := binary.BigEndian.AppendUint32(nil, n)
	return binary.BigEndian.AppendUint32(append(bytes, image...), turn)
}

// holding are the bytes of a slot that holds an image and a turn.
func holding(image []byte, turn int) []byte {
	return slotBytes(uint32(len(image)), image, uint32(turn))
}

// disk is a new disk with these slots.
func disk(t *testing.T, slots ...[]byte) *ledger.Disk {
	t.Helper()
	d := ledger.NewDisk()
	for i, bytes := range slots {
		expect(t, d.Write(i, bytes), api.OK, "Write")
	}
	return d
}

// expectSlots expects what a disk that is up has in its slots.
func expectSlots(t *testing.T, d *ledger.Disk, slots ...[]byte) {
	t.Helper()
	for i, want := range slots {
		if got, e := d.Read(i); !slices.Equal(got, want) || e != api.OK {
			t.Fatalf("slot %d: %x, %d, not %x", i, got, e, want)
		}
	}
}

// expectJournal expects the turn and the image of a journal.
func expectJournal(t *testing.T, j *ledger.Journal, turn int, image string) {
	t.Helper()
	if j.Turn() != turn || string(j.Image()) != image {
		t.Fatalf("turn %d, image %.40q, not %d, %.40q", j.Turn(), j.Image(), turn, image)
	}
}

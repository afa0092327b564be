package ledger

import (
	"cmp"
	"slices"

	"pantoscope/api"
)

// Limits of entries, and of the age of an invoice that is due.
const (
	maxRef   = 1_000_000_000
	maxCents = 1_000_000_000
	maxAfter = 1000
)

func within(n, least, most int) bool {
	return least <= n && n <= most
}

func isDay(n int) bool {
	return within(n, 0, api.MaxDay)
}

// every tells whether all entries of a list have a property.
func every(list []api.Entry, has func(api.Entry) bool) bool {
	return !slices.ContainsFunc(list, func(e api.Entry) bool { return !has(e) })
}

func validEntry(e api.Entry) bool {
	return within(e.Ref, 1, maxRef) && isDay(e.Day) && validCents(e)
}

func validCents(e api.Entry) bool {
	switch e.Kind {
	case api.EntryInvoice, api.EntryPay, api.EntryCredit:
		return within(e.Cents, 1, maxCents)
	case api.EntryReturn:
		return e.Cents == 0
	}
	return false
}

// name is what no two entries of a book have in common.
type name struct {
	kind, ref int
}

func nameOf(e api.Entry) name {
	return name{kind: e.Kind, ref: e.Ref}
}

// byName has the entries of a list by their names; of several with one name, the last.
func byName(list []api.Entry) map[name]api.Entry {
	book := map[name]api.Entry{}
	for _, e := range list {
		book[nameOf(e)] = e
	}
	return book
}

// sorted has the entries of a book in the order of entries.
func sorted(book map[name]api.Entry) []api.Entry {
	var list []api.Entry
	for _, e := range book {
		list = append(list, e)
	}
	slices.SortFunc(list, inOrder)
	return list
}

// inOrder compares two entries by the order of entries.
func inOrder(e, f api.Entry) int {
	return cmp.Or(cmp.Compare(e.Kind, f.Kind), cmp.Compare(e.Ref, f.Ref))
}

package ledger

import (
	"maps"
	"slices"

	"pantoscope/api"
)

// effect is what an entry does to the balance.
func effect(e api.Entry) int {
	switch e.Kind {
	case api.EntryInvoice:
		return e.Cents
	case api.EntryPay, api.EntryCredit:
		return -e.Cents
	}
	return 0
}

// balance is that of the entries whose Day is not later.
func balance(b []api.Entry, day int) int {
	all := 0
	for _, e := range b {
		if e.Day <= day {
			all += effect(e)
		}
	}
	return all
}

func running(b []api.Entry) [][2]int {
	changes := map[int]int{} // by day
	for _, e := range b {
		if e.Kind != api.EntryReturn {
			changes[e.Day] += effect(e)
		}
	}
	var list [][2]int
	all := 0
	for _, day := range slices.Sorted(maps.Keys(changes)) {
		all += changes[day]
		list = append(list, [2]int{day, all})
	}
	return list
}

// settled tells whether what was paid and credited for an invoice up to a day is enough.
func settled(b []api.Entry, invoice api.Entry, day int) bool {
	paid := 0
	for _, e := range b {
		if e.Ref == invoice.Ref && e.Day <= day && (e.Kind == api.EntryPay || e.Kind == api.EntryCredit) {
			paid += e.Cents
		}
	}
	return paid >= invoice.Cents
}

func due(b []api.Entry, day, after int) []int {
	var refs []int
	for _, e := range b {
		if e.Kind == api.EntryInvoice && e.Day <= day-after && !settled(b, e, day) {
			refs = append(refs, e.Ref)
		}
	}
	slices.Sort(refs)
	return refs
}

package ledger

import (
	"slices"

	"pantoscope/api"
)

// differences are those of two books, in the order of entries.
func differences(a, b []api.Entry) []api.Diff {
	mine, theirs := byName(a), byName(b)
	var list []api.Diff
	for _, e := range sorted(byName(slices.Concat(a, b))) {
		d := api.Diff{Mine: mine[nameOf(e)], Theirs: theirs[nameOf(e)]}
		if d.Mine != d.Theirs {
			d.Kind = kindOf(d)
			list = append(list, d)
		}
	}
	return list
}

// kindOf is the kind of a difference by its two sides: a side that has no entry is zero, which no entry of a book is.
func kindOf(d api.Diff) int {
	none := api.Entry{}
	if d.Theirs == none {
		return api.DiffMine
	}
	if d.Mine == none {
		return api.DiffTheirs
	}
	return api.DiffOther
}

// agreed are the entries of a book that another one has with all fields the same.
func agreed(a, b []api.Entry) []api.Entry {
	theirs := byName(b)
	return slices.DeleteFunc(sorted(byName(a)), func(e api.Entry) bool { return theirs[nameOf(e)] != e })
}

// since are the entries of a book that an old one does not have with all fields the same.
func since(old, book []api.Entry) []api.Entry {
	before := byName(old)
	return slices.DeleteFunc(sorted(byName(book)), func(e api.Entry) bool { return before[nameOf(e)] == e })
}

// joined are the entries of two books but for those that differ, and the differences of these.
func joined(a, b []api.Entry) ([]api.Entry, []api.Diff) {
	all := byName(slices.Concat(a, b))
	others := slices.DeleteFunc(differences(a, b), func(d api.Diff) bool { return d.Kind != api.DiffOther })
	for _, d := range others {
		delete(all, nameOf(d.Mine))
	}
	return sorted(all), others
}

package barrel

import (
	"cmp"
	"slices"

	"pantoscope/api"
)

// checkRows tells what is wrong with rows of a valid list. Each fault is looked for in all rows before the next one.
func checkRows(l []api.Batch, rows [][]int) api.Errno {
	anyRow := func(is func(row []int) bool) bool { return slices.ContainsFunc(rows, is) }
	used := make([]bool, len(l))
	switch {
	case anyRow(func(row []int) bool { return hasNoIndex(l, row) }):
		return api.ErrArg
	case anyRow(func(row []int) bool { return usesTwice(used, row) }):
		return api.ErrTwice
	case anyRow(func(row []int) bool { return isDirty(l, row) }):
		return api.ErrDirty
	case slices.Contains(used, false) || anyRow(func(row []int) bool { return len(row) == 0 }):
		return api.ErrLimit
	}
	return api.OK
}

// hasNoIndex tells whether an element of a row is no index.
func hasNoIndex(l []api.Batch, row []int) bool {
	return slices.ContainsFunc(row, func(i int) bool { return !isIndex(i, l) })
}

// usesTwice notes the batches of a row as used, and tells whether one of them was used before.
func usesTwice(used []bool, row []int) bool {
	for _, i := range row {
		if used[i] {
			return true
		}
		used[i] = true
	}
	return false
}

// isDirty tells whether a batch may not follow the one in front of it in a row.
func isDirty(l []api.Batch, row []int) bool {
	for n, i := range row {
		if n > 0 && !may(l[row[n-1]], l[i]) {
			return true
		}
	}
	return false
}

// arrange puts all batches in rows. For each batch that is not in the first row it also returns what was the last batch of
// the row begun before its own when it was put there.
func arrange(l []api.Batch) (rows [][]int, barred map[int]int) {
	barred = map[int]int{}
	for _, i := range lightestFirst(l) {
		k := rowFor(l, rows, l[i])
		if k == len(rows) {
			rows = append(rows, nil)
		}
		rows[k] = append(rows[k], i)
		if k > 0 {
			barred[i] = lastOf(rows[k-1])
		}
	}
	return rows, barred
}

// lightestFirst returns the indexes of all batches by Dark, of these by Grain, of these by Number.
func lightestFirst(l []api.Batch) []int {
	var list []int
	for i := range l {
		list = append(list, i)
	}
	slices.SortFunc(list, func(i, j int) int {
		a, b := l[i], l[j]
		return cmp.Or(cmp.Compare(a.Dark, b.Dark), cmp.Compare(a.Grain, b.Grain), cmp.Compare(a.Number, b.Number))
	})
	return list
}

// rowFor returns the row whose last batch has the greatest Grain of those that a batch may follow, and the number of rows if
// there is none.
func rowFor(l []api.Batch, rows [][]int, b api.Batch) int {
	best, grain := len(rows), -1
	for k, row := range rows {
		end := l[lastOf(row)]
		if may(end, b) && end.Grain > grain {
			best, grain = k, end.Grain
		}
	}
	return best
}

func lastOf(row []int) int {
	return row[len(row)-1]
}

// proof returns a batch of each row, from the last one on. The Grain of the last batches falls from row to row all the
// time, so a batch is finer than the one by which it is barred; and it is darker, as of equally dark ones the finer comes
// first. So all of them are apart.
func proof(rows [][]int, barred map[int]int) []int {
	if len(rows) == 0 {
		return nil
	}
	var list []int
	for i, more := lastOf(rows[len(rows)-1]), true; more; i, more = barred[i] {
		list = append(list, i)
	}
	return list
}

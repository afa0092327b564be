package barrel_test

import (
	"math/rand/v2"
	"reflect"
	"slices"
	"testing"

	"pantoscope/api"
	"pantoscope/barrel"
)

// P6.3: also the chapter's example 1, and ties of Dark, Grain and Number.
func TestRows(t *testing.T) {
	numbers := []api.Batch{batch(9, 2, 2, 1), batch(4, 2, 2, 1), batch(7, 2, 2, 1)}
	falling, rising, square := []api.Batch{}, []api.Batch{}, []api.Batch{}
	for i := range 10 {
		falling, rising = append(falling, batch(i+1, 9-i, i, 1)), append(rising, batch(i+1, 9-i, 9-i, 1))
	}
	for i := range 36 {
		square = append(square, batch(36-i, i/6, i%6, 1))
	}
	for name, c := range map[string]struct {
		l    []api.Batch
		rows [][]int
	}{
		"nil":                 {nil, nil},
		"none":                {[]api.Batch{}, nil},
		"one":                 {equals(1), [][]int{{0}}},
		"example":             {example(), [][]int{{0, 3}, {1, 2}}},
		"in another order":    {shades([2]int{4, 6}, [2]int{3, 4}, [2]int{2, 3}, [2]int{1, 5}), [][]int{{3, 0}, {2, 1}}},
		"equal ones":          {equals(5), [][]int{{0, 1, 2, 3, 4}}},
		"by Number":           {numbers, [][]int{{1, 2, 0}}},
		"by Grain, of a Dark": {shades([2]int{3, 5}, [2]int{3, 2}, [2]int{3, 4}), [][]int{{1, 2, 0}}},
		"by Dark first":       {shades([2]int{2, 1}, [2]int{1, 2}), [][]int{{1}, {0}}},
		"of an equal Grain":   {shades([2]int{0, 5}, [2]int{1, 3}, [2]int{2, 3}, [2]int{3, 5}, [2]int{4, 4}), [][]int{{0, 3}, {1, 2, 4}}},
		"the greatest Grain":  {shades([2]int{0, 7}, [2]int{1, 5}, [2]int{2, 3}, [2]int{3, 6}, [2]int{4, 6}, [2]int{5, 4}, [2]int{6, 8}), [][]int{{0, 6}, {1, 3, 4}, {2, 5}}},
		"falling":             {falling, [][]int{{9}, {8}, {7}, {6}, {5}, {4}, {3}, {2}, {1}, {0}}},
		"rising":              {rising, [][]int{{9, 8, 7, 6, 5, 4, 3, 2, 1, 0}}},
		"square": {square, [][]int{
			{0, 1, 2, 3, 4, 5, 11, 17, 23, 29, 35}, {6, 7, 8, 9, 10, 16, 22, 28, 34}, {12, 13, 14, 15, 21, 27, 33}, {18, 19, 20, 26, 32}, {24, 25, 31}, {30}}},
	} {
		if rows := must[[][]int](t)(barrel.Rows(c.l)); !reflect.DeepEqual(rows, c.rows) && len(rows)+len(c.rows) > 0 {
			t.Errorf("Rows, %s: %v", name, rows)
		}
		if n := must[int](t)(barrel.Fewest(c.l)); n != len(c.rows) {
			t.Errorf("Fewest, %s: %d", name, n)
		}
	}
}

// rowsOf makes rows as the chapter says.
func rowsOf(l []api.Batch) [][]int {
	var rows [][]int
	for dark := range 10 {
		for grain := range 10 {
			for _, i := range ofShade(l, dark, grain) {
				best := -1
				for k, row := range rows {
					end := l[row[len(row)-1]]
					if mayFollow(end, l[i]) && (best < 0 || end.Grain > l[rows[best][len(rows[best])-1]].Grain) {
						best = k
					}
				}
				if best < 0 {
					rows = append(rows, []int{i})
				} else {
					rows[best] = append(rows[best], i)
				}
			}
		}
	}
	return rows
}

// ofShade are the batches of a Dark and a Grain, in the order of their Numbers.
func ofShade(l []api.Batch, dark, grain int) []int {
	list := slices.DeleteFunc(all(len(l)), func(i int) bool { return l[i].Dark != dark || l[i].Grain != grain })
	for range list {
		for n := 1; n < len(list); n++ {
			if l[list[n-1]].Number > l[list[n]].Number {
				list[n-1], list[n] = list[n], list[n-1]
			}
		}
	}
	return list
}

// P6.3: many lists, by the terms of the chapter.
func TestRowsMany(t *testing.T) {
	r := rand.New(rand.NewPCG(3, 4))
	for range 2000 {
		l := randomBatches(r, api.MaxBatches)
		rows, want := must[[][]int](t)(barrel.Rows(l)), rowsOf(l)
		if !slices.EqualFunc(rows, want, slices.Equal) {
			t.Fatalf("Rows(%v): %v, want %v", l, rows, want)
		}
	}
}

// P6.3, P6.4, P6.8: no rows are fewer than Fewest, and no batches that are apart are more, of all that there are.
func TestFewestMany(t *testing.T) {
	r := rand.New(rand.NewPCG(5, 6))
	counts := map[int]int{}
	for range 500 {
		l := randomBatches(r, 8)
		n := must[int](t)(barrel.Fewest(l))
		if fewest, most := fewestOf(l), mostApart(l); n != fewest || n != most {
			t.Fatalf("Fewest(%v): %d, but %d rows and %d apart", l, n, fewest, most)
		}
		counts[n]++
	}
	for n := range 4 {
		if counts[n] < 20 {
			t.Errorf("%d lists with %d rows", counts[n], n)
		}
	}
}

// P6.4: a proof has so many elements that are apart, in ascending order; also the chapter's example 1.
func TestProof(t *testing.T) {
	falling := []api.Batch{}
	for i := range 40 {
		falling = append(falling, batch(i+1, i%10, 9-i%10, 1))
	}
	for name, c := range map[string]struct {
		l    []api.Batch
		want int
	}{
		"nil": {nil, 0}, "none": {[]api.Batch{}, 0}, "one": {equals(1), 1}, "equal ones": {equals(40), 1}, "example": {example(), 2}, "falling": {falling, 10},
		"the first rows change": {shades([2]int{0, 5}, [2]int{1, 3}, [2]int{2, 9}, [2]int{3, 1}), 3},
		"not the last ones":     {shades([2]int{4, 9}, [2]int{0, 2}, [2]int{1, 1}, [2]int{2, 0}, [2]int{3, 9}), 3},
	} {
		list := must[[]int](t)(barrel.Proof(c.l))
		if len(list) != c.want || !isAscending(list) || !isApart(c.l, list) {
			t.Errorf("%s: %v", name, list)
		}
	}
}

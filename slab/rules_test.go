package slab_test

import (
	"math"
	"reflect"
	"slices"
	"testing"

	"pantoscope/api"
	"pantoscope/slab"
)

// calls are the functions with one recipe; the other arguments are as good as none if wrong is set.
func calls(wrong bool) map[string]func(b api.Block) []any {
	results := func(r ...any) []any { return r }
	n, r := 0, api.Rect{W: 1, H: 1}
	if wrong {
		n, r = math.MinInt, api.Rect{X: -1}
	}
	return map[string]func(b api.Block) []any{
		"Check":    func(b api.Block) []any { return results(slab.Check(b)) },
		"Format":   func(b api.Block) []any { return results(slab.Format(b)) },
		"Extent":   func(b api.Block) []any { return results(slab.Extent(b)) },
		"At":       func(b api.Block) []any { return results(slab.At(b, [3]int{n, n, n})) },
		"Volumes":  func(b api.Block) []any { return results(slab.Volumes(b)) },
		"Layer":    func(b api.Block) []any { return results(slab.Layer(b, n, n)) },
		"Depth":    func(b api.Block) []any { return results(slab.Depth(b, n, n)) },
		"Equal":    func(b api.Block) []any { return results(slab.Equal(b, b)) },
		"second":   func(b api.Block) []any { return results(slab.Equal(unit(), b)) },
		"Mirrored": func(b api.Block) []any { return results(slab.Mirrored(b, n)) },
		"Sheets":   func(b api.Block) []any { return results(slab.Sheets(b)) },
		"Window":   func(b api.Block) []any { return results(slab.Window(b, r)) },
		"Matches":  func(b api.Block) []any { return results(slab.Matches(b, r, r)) },
	}
}

// isError tells whether the results are zero values and this error.
func isError(results []any, err api.Errno) bool {
	last := len(results) - 1
	for _, r := range results[:last] {
		if v := reflect.ValueOf(r); !v.IsZero() && !(v.Kind() == reflect.Slice && v.Len() == 0) {
			return false
		}
	}
	return results[last] == err
}

// P2.1, R2: each function returns the errors of recipes, in front of its own and with zero values.
func TestErrorsOfRecipes(t *testing.T) {
	for _, wrong := range []bool{false, true} {
		for name, call := range calls(wrong) {
			for err, list := range map[api.Errno]map[string]api.Block{
				api.ErrBlock: bad(), api.ErrExtent: misfits(), api.ErrLimit: excesses(),
			} {
				for what, b := range list {
					if r := call(b); !isError(r, err) {
						t.Errorf("%s of %s: %v, want %d", name, what, r, err)
					}
				}
			}
			for levels := 17; levels < 20; levels++ {
				if r := call(tower(levels)); !isError(r, api.ErrLimit) {
					t.Errorf("%s of %d levels: %v", name, levels, r)
				}
			}
		}
	}
}

// P2.1: functions with other arguments of their own return ErrArg, with zero values, for valid recipes.
func TestErrArgOfRecipes(t *testing.T) {
	list := calls(true)
	for _, name := range []string{"At", "Layer", "Depth", "Mirrored", "Window", "Matches"} {
		for _, b := range []api.Block{unit(), tower(16), solid('a', 20, 20, 20)} {
			if r := list[name](b); !isError(r, api.ErrArg) {
				t.Errorf("%s: %v", name, r)
			}
		}
	}
}

// wide is a recipe of so many levels, each of which has one list of parts, shared by all blocks of the level above.
func wide(levels, parts int) api.Block {
	b := unit()
	for range levels - 1 {
		b = api.Block{Op: api.BlockStack, Parts: slices.Repeat([]api.Block{b}, parts)}
	}
	return b
}

// R1: recipes with shared parts, with parts that lie in themselves, and with very many.
func TestOddRecipes(t *testing.T) {
	loop := make([]api.Block, 2)
	loop[0], loop[1] = unit(), stack(0, unit(), unit())
	loop[1].Parts = loop
	around := make([]api.Block, 1)
	around[0] = api.Block{Op: api.BlockFlip, Parts: around}
	lengths := slices.Repeat([]api.Block{unit()}, 40)
	for i := range lengths {
		lengths[i].Parts = lengths[:i]
	}
	for name, c := range map[string]struct {
		b   api.Block
		err api.Errno
	}{
		"a loop":              {stack(0, unit(), loop[1]), api.ErrLimit},
		"a loop of one":       {around[0], api.ErrLimit},
		"lists of each other": {api.Block{Parts: lengths}, api.ErrLimit},
		"wide":                {wide(16, 1000), api.ErrBlock},
		"wide and too deep":   {wide(17, 1000), api.ErrLimit},
		"shared":              {wide(8, 2), api.OK},
		"shared, too large":   {wide(16, 2), api.ErrLimit},
		"shared list":         {api.Block{Op: api.BlockStack, Parts: lengths[1:3]}, api.ErrBlock},
		"very many parts":     {api.Block{Op: api.BlockStack, Parts: make([]api.Block, 1<<18)}, api.ErrBlock},
	} {
		if e := slab.Check(c.b); e != c.err {
			t.Errorf("%s: %d, want %d", name, e, c.err)
		}
		for called, call := range calls(true) {
			if r := call(c.b); c.err != api.OK && !isError(r, c.err) {
				t.Errorf("%s of %s: %v", called, name, r)
			}
		}
	}
}

// P2.1: shared parts count where they lie deepest.
func TestSharedDepth(t *testing.T) {
	for levels, want := range map[int]api.Errno{7: api.OK, 8: api.ErrLimit} {
		p := tower(levels)
		for _, b := range []api.Block{stack(0, p, flips(8, p)), stack(0, flips(8, p), p)} {
			if e := slab.Check(b); e != want {
				t.Errorf("%d levels: %d, want %d", levelOf(b), e, want)
			}
		}
	}
}

// R4: arguments are not changed, lists are read up to their length alone, and equal arguments give equal results.
func TestArgumentsStay(t *testing.T) {
	for _, b := range recipes(t, 100) {
		before := copied(b)
		long := b
		if len(b.Parts) > 0 {
			long.Parts = append(slices.Clone(b.Parts), api.Block{Op: 77})[:len(b.Parts)]
		}
		for name, call := range calls(false) {
			first, second := call(long), call(copied(b))
			if !reflect.DeepEqual(first, second) || !equal(b, before) {
				t.Fatalf("%s of %v: %v, then %v", name, b, first, second)
			}
		}
	}
}

// R4: results are new memory.
func TestResultsAreNew(t *testing.T) {
	b := brick()
	for range 2 {
		l := must[[]string](t)(slab.Layer(b, 2, 0))
		w := must[[]string](t)(slab.Window(b, api.Rect{W: 2, H: 2}))
		if !slices.Equal(l, []string{"ab", "cd"}) || !slices.Equal(w, l) {
			t.Fatalf("%q, %q", l, w)
		}
		l[0], w[1] = "", ""
		p := must[api.Block](t)(slab.Parse("stack x (a 1 1 1, b 1 1 1)"))
		if !equal(p, row("ab")) {
			t.Fatalf("%v", p)
		}
		p.Parts[0] = p
	}
}

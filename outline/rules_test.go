package outline_test

import (
	"math"
	"reflect"
	"slices"
	"testing"

	"pantoscope/api"
	"pantoscope/outline"
)

// A call is a function with its arguments but for the outlines; its results are the last ones, the error the very last.
type call struct {
	name string
	two  bool
	run  func(o, p []api.XY) []any
}

func calls(n int) []call {
	results := func(r ...any) []any { return r }
	trace := api.Trace{Job: "JOB", Side: 'R'}
	if n != 0 {
		trace = api.Trace{Job: "no job", Side: 'x'}
	}
	return []call{
		{"Canonical", false, func(o, _ []api.XY) []any { return results(outline.Canonical(o)) }},
		{"Same", true, func(o, p []api.XY) []any { return results(outline.Same(o, p)) }},
		{"Box", false, func(o, _ []api.XY) []any { return results(outline.Box(o)) }},
		{"Centred", false, func(o, _ []api.XY) []any { return results(outline.Centred(o)) }},
		{"Area2", false, func(o, _ []api.XY) []any { return results(outline.Area2(o)) }},
		{"Mirror", false, func(o, _ []api.XY) []any { return results(outline.Mirror(o)) }},
		{"Turned", false, func(o, _ []api.XY) []any { return results(outline.Turned(o)) }},
		{"Moved", false, func(o, _ []api.XY) []any { return results(outline.Moved(o, n, n)) }},
		{"Reach", false, func(o, _ []api.XY) []any { return results(outline.Reach(o, n+1, n)) }},
		{"Holds", false, func(o, _ []api.XY) []any { return results(outline.Holds(o, api.XY{X: n, Y: n})) }},
		{"Within", true, func(o, p []api.XY) []any { return results(outline.Within(o, p)) }},
		{"Seat", true, func(o, p []api.XY) []any { return results(outline.Seat(o, p, n)) }},
		{"Sum", true, func(o, p []api.XY) []any { return results(outline.Sum(o, p)) }},
		{"Around", false, func(o, _ []api.XY) []any { return results(outline.Around(o)) }},
		{"Diameter", false, func(o, _ []api.XY) []any { return results(outline.Diameter(o)) }},
		{"Blank", false, func(o, _ []api.XY) []any { return results(outline.Blank(o, n, n)) }},
		{"Format", false, func(o, _ []api.XY) []any {
			return results(outline.Format(api.Trace{Job: trace.Job, Side: trace.Side, O: o}))
		}},
	}
}

// isError tells whether the results are zero values and this error.
func isError(results []any, err api.Errno) bool {
	last := len(results) - 1
	for _, r := range results[:last] {
		if v := reflect.ValueOf(r); !v.IsZero() && !(v.Kind() == reflect.Slice && v.Len() == 0) {
			return false
		}
	}
	return results[last] == err
}

// P1.1, R1, R2: ErrOutline comes first, whatever else is wrong.
func TestOrderOfErrors(t *testing.T) {
	m := api.MaxPlace
	wrong := [][]api.XY{nil, {}, triangle()[:2], xy(0, 0, 0, 1, 1, 0), xy(0, 0, m+1, 0, 0, 1), many(65), xy(math.MinInt, math.MaxInt, 0, 0, math.MaxInt, 1)}
	for _, n := range []int{0, 1000000, -1, math.MaxInt - 1, math.MinInt} {
		for _, c := range calls(n) {
			for _, o := range wrong {
				if r := c.run(o, square()); !isError(r, api.ErrOutline) {
					t.Errorf("%s(%v) with %d: %v", c.name, o, n, r)
				}
				if r := c.run(square(), o); c.two && !isError(r, api.ErrOutline) {
					t.Errorf("%s with the second outline %v and %d: %v", c.name, o, n, r)
				}
			}
		}
	}
}

// R2: together with another error, too, all other results are zero values.
func TestZeroResults(t *testing.T) {
	for _, c := range calls(1000000) {
		switch c.name {
		case "Moved", "Reach", "Holds", "Seat", "Blank":
			if r := c.run(square(), square()); !isError(r, api.ErrArg) {
				t.Errorf("%s: %v", c.name, r)
			}
		case "Format":
			if r := c.run(square(), nil); !isError(r, api.ErrForm) {
				t.Errorf("%s: %v", c.name, r)
			}
		}
	}
}

// R4: arguments are not changed, lists are read up to their length alone, and equal arguments give equal results.
func TestArgumentsStay(t *testing.T) {
	for _, base := range append(outlines(t, 40), square(), triangle()) {
		long := append(slices.Clone(base), xy(777, 778, 779, 780)...)
		before := slices.Clone(long)
		o := long[:len(base)]
		for _, c := range calls(0) {
			first := c.run(o, o)
			if second := c.run(slices.Clone(base), slices.Clone(base)); !reflect.DeepEqual(first, second) {
				t.Fatalf("%s(%v): %v, then %v", c.name, base, first, second)
			}
			if !slices.Equal(long, before) {
				t.Fatalf("%s changed %v to %v", c.name, before, long)
			}
		}
		outline.Valid(o)
		outline.Hull(o)
		if !slices.Equal(long, before) {
			t.Fatalf("changed %v to %v", before, long)
		}
	}
}

// R4: results are new memory, also where they equal an argument.
func TestResultsAreNew(t *testing.T) {
	for _, base := range [][]api.XY{square(), triangle(), many(64), rolled(square(), 1)} {
		o := slices.Clone(base)
		runs := calls(0)
		runs = append(runs, call{"Hull", false, func(o, _ []api.XY) []any { h, e := outline.Hull(o); return []any{h, e} }})
		for _, c := range runs {
			list, ok := c.run(o, o)[0].([]api.XY)
			if !ok {
				continue
			}
			list = list[:cap(list)]
			for i := range list {
				list[i] = api.XY{X: 999, Y: 999}
			}
			if !slices.Equal(o, base) {
				t.Fatalf("%s shares its result", c.name)
			}
		}
	}
}

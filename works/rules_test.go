package works_test

import (
	"fmt"
	"math"
	"reflect"
	"slices"
	"strings"
	"testing"

	"pantoscope/api"
	"pantoscope/ledger"
	"pantoscope/works"
)

// spoil writes into a list, and behind its length.
func spoil[T any](list []T, with T) {
	list = list[:cap(list)]
	for i := range list {
		list[i] = with
	}
}

// R4: a works keeps a copy of its setup; the setup is not changed.
func TestSetupIsCopied(t *testing.T) {
	s := setup()
	given := fmt.Sprint(s)
	b := begun(t, s, shelf(5, 5)...)
	if fmt.Sprint(s) != given {
		t.Errorf("the setup is changed to %v", s)
	}
	spoil(s.Sizes, api.Size{})
	spoil(s.Prices[0].Steps, api.Step{})
	spoil(s.Prices[1].Steps, api.Step{})
	spoil(s.Prices, api.Price{})
	for line, want := range map[string]string{"cut 1 3 1": "3 3", "sell 1 1 170 0 0 0 0 A7 1000": "1"} {
		same(t, doing(b.w, line), want, line)
	}
	b.lines("day 10")
	same(t, doing(b.w, "sell 2 1 170 0 0 0 0 A7 1200"), "2", "sell")
}

// R4: lists are read up to their length alone, and an empty one is a nil one.
func TestLists(t *testing.T) {
	s := setup()
	s.Sizes = append(s.Sizes, api.Size{}, sized(9, 0, 0))[:3]
	s.Prices = append(s.Prices, api.Price{})[:3]
	s.Prices[2].Steps = append(s.Prices[2].Steps, api.Step{})[:1]
	if !works.ValidSetup(s) {
		t.Error("not valid")
	}
	lines := append(shelf(5), "cut 1 9 1")
	answers := must[[]string](t)(works.Play(s, lines))
	same(t, answers[len(lines)-1], "error 31", "cut 1 9 1")
	same(t, must[[]string](t)(works.Play(setup(), lines)), answers, "Play")
	for _, none := range []api.Setup{{Sizes: []api.Size{}, Prices: []api.Price{}, Scheme: s.Scheme}, {Scheme: s.Scheme}} {
		same(t, must[[]string](t)(works.Play(none, []string{"block 1 a 8 3 1", "day 7", "cut 1 5 1"})), []string{"8x3x1", "ok", "error 31"}, "Play")
	}
}

// R4: results are new memory.
func TestResultsAreNew(t *testing.T) {
	b := begun(t, setup(), append(shelf(5, 5, 3), "temple 9 R 300 4", "temple 8 L 200 4", "inspect 3", "sell 6 2 170 0 0 0 0 A7 1000", "sell 7 2 170 0 0 0 0 A7 1000")...)
	before := view(b.w)
	for range 2 {
		spoil(b.w.Lines(), "day 5")
		spoil(b.w.Frames(), api.Frame{})
		spoil(b.w.Stock(), api.Temple{})
		spoil(b.w.Book(), api.Entry{})
		spoil(b.w.Inspection(), 7)
		spoil(must[[]int](t)(b.w.Recall(1)), 7)
		same(t, view(b.w), before, "the works")
		b.recalled(1, 1, 2)
	}
	b.run("return 1 = ok", "sell 8 4 190 0 0 0 0 A7 1000 = 3", "cut 1 5 1 = 4 4")
}

// R4: what is shown stays as it is when the works goes on.
func TestResultsStay(t *testing.T) {
	b := begun(t, setup(), append(ready(5, 3, 3, 3), "temple 9 R 300 4")...)
	lines, frames, stock, book, found := b.w.Lines(), b.w.Frames(), b.w.Stock(), b.w.Book(), b.w.Inspection()
	same := []any{slices.Clone(lines), slices.Clone(frames), slices.Clone(stock), slices.Clone(book), slices.Clone(found)}
	b.lines("temple 7 L 300 4", "inspect 1", "cut 1 5 1", "fit", "inspect 1", "sell 6 2 170 0 0 0 0 A7 1000", "return 1", "cut 1 5 1")
	if now := []any{lines, frames, stock, book, found}; !reflect.DeepEqual(now, same) {
		t.Errorf("%v, not %v", now, same)
	}
}

// R1: calls with any arguments end, without a panic.
func TestAnyArguments(t *testing.T) {
	numbers := []int{0, 1, -1, 2, 64, 1 << 31, math.MinInt, math.MaxInt}
	var setups []api.Setup
	for _, n := range numbers {
		p := api.Plan{Sample: n, Accept: n}
		m := [5]int{n, n, n, n, n}
		setups = append(setups, api.Setup{Tol: n}, api.Setup{Scheme: api.Scheme{Normal: p, Tight: p, Reduced: p}, Tol: n},
			api.Setup{Sizes: []api.Size{{Code: n, From: m, To: m, Bend: m, Total: n}}, Prices: []api.Price{{Model: "A7", Day: n, Steps: []api.Step{{Count: n, Cents: n}}}}, Scheme: setup().Scheme, Tol: n})
	}
	lines := append(append(slices.Clone(noDeeds), shelf(5)...), strings.Repeat("polish 1 ", 30), strings.Repeat("a", 1<<20), "\xff\xfe")
	for _, s := range append(setups, setup()) {
		works.ValidSetup(s)
		works.Play(s, lines[:min(len(lines), api.MaxScript)])
		for _, d := range []*ledger.Disk{nil, {}, ledger.NewDisk()} {
			w, _ := works.Open(s, d)
			for _, line := range lines {
				w.Do(line)
			}
			for _, n := range numbers {
				w.Recall(n)
			}
			view(w)
		}
	}
}

// Each works has its own state.
func TestTwoWorks(t *testing.T) {
	one, two := begun(t, setup(), shelf(5, 5)...), newBench(t, setup())
	same(t, view(two.w), view(nil), "the other works")
	two.run("block 1 b 8 3 1 = 8x3x1", "day 7 = ok", "cut 1 3 1 = 1 1", "temple 1 L 7 7 = ok")
	one.run("sell 8 4 170 0 0 0 0 A7 1000 = 1", "cut 1 5 1 = 3 3", "temple 1 L 7 7 = error 6")
	same(t, two.w.Frames(), []api.Frame{frame(1, 3, 0, 0, api.FrameCut, 0, 0)}, "Frames")
}

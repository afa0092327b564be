package works_test

import (
	"fmt"
	"slices"
	"testing"

	"pantoscope/api"
	"pantoscope/sample"
)

// P10.3: temples come to the stock; ErrTemple, ErrThere and ErrLimit, in this order.
func TestTemple(t *testing.T) {
	b := newBench(t, setup())
	b.run(
		"temple 7 R 1400 1 = ok", "temple 3 L 2000 9 = ok", "temple 999999999 L 1 1 = ok", "temple 0 L 1 1 = error 40", "temple 1 L 0 1 = error 40", "temple 1 L 2001 1 = error 40", "temple 1 L 1 0 = error 40", "temple 1 R 1 10 = error 40",
		"temple 7 R 1400 1 = error 6", "temple 7 L 5 5 = error 6", "temple 7 L 0 5 = error 40",
	)
	same(t, b.w.Stock(), []api.Temple{{Number: 3, Side: api.SideLeft, Length: 2000, Colour: 9}, {Number: 7, Side: api.SideRight, Length: 1400, Colour: 1}, {Number: 999999999, Side: api.SideLeft, Length: 1, Colour: 1}}, "Stock")
	for n := 100; n < 157; n++ {
		b.lines(fmt.Sprintf("temple %d L 5 5", n))
	}
	b.run("temple 200 L 5 5 = error 4", "temple 7 L 5 5 = error 6", "temple 200 L 0 5 = error 40")
	same(t, len(b.w.Stock()), api.MaxTemples, "temples in stock")
}

// P10.3: a temple that was in stock once does not come again: neither in a frame, nor sold, nor scrapped.
func TestTempleComesOnce(t *testing.T) {
	b := begun(t, setup(), ready(5, 3, 3, 0)...)
	b.run("temple 1 L 100 1 = error 6", "temple 4 L 9 9 = error 6", "inspect 1 = refused 2")
	same(t, states(b.w), []int{api.FramePolished, api.FramePolished, api.FrameReady}, "states")
	b.run("temple 1 L 100 1 = error 6", "temple 4 R 103 1 = error 6", "sell 1 1 170 0 0 0 0 A7 1000 = 3", "temple 5 L 100 1 = error 6", "return 3 = ok", "temple 6 L 100 1 = error 6", "temple 7 L 100 1 = ok")
	same(t, b.w.Stock(), []api.Temple{{Number: 7, Side: api.SideLeft, Length: 100, Colour: 1}}, "Stock")
}

// P10.3: the stock may be filled up again behind a fit.
func TestStockIsFilledAgain(t *testing.T) {
	b := begun(t, setup(), polished(1, 5, 1, 0)...)
	for n := range 29 {
		b.lines(fmt.Sprintf("temple %d L %d 1", n+1, n+1), fmt.Sprintf("temple %d L %d 2", n+101, n+1))
	}
	b.run("temple 200 L 9 9 = ok", "temple 201 R 1 1 = ok", "temple 202 R 9 9 = error 4", "fit = 1", "temple 202 R 9 9 = ok", "temple 203 R 5 5 = ok", "temple 204 R 5 5 = error 4")
}

// P10.3: frames that are polished get the pairs of temple.Match, in their order.
func TestFit(t *testing.T) {
	b := begun(t, setup(), append(polished(1, 5, 5, 0), "cut 1 7 1")...)
	b.run(
		"fit = 0", "temple 9 L 1400 2 = ok", "fit = 0", "temple 8 R 1406 2 = ok", "fit = 0", "temple 2 R 1395 2 = ok", "temple 4 L 110 1 = ok", "temple 1 L 105 1 = ok", "temple 3 R 108 1 = ok", "temple 5 R 112 1 = ok", "temple 6 R 100 3 = ok",
		"fit = 3",
	)
	want := []api.Frame{
		frame(1, 5, 1, 3, api.FrameReady, 0, 0), frame(2, 5, 4, 5, api.FrameReady, 0, 0), frame(3, 5, 9, 2, api.FrameReady, 0, 0),
		frame(4, 5, 0, 0, api.FramePolished, 0, 0), frame(5, 5, 0, 0, api.FramePolished, 0, 0), frame(6, 7, 0, 0, api.FrameCut, 0, 0),
	}
	same(t, b.w.Frames(), want, "Frames")
	same(t, b.w.Stock(), []api.Temple{{Number: 6, Side: api.SideRight, Length: 100, Colour: 3}, {Number: 8, Side: api.SideRight, Length: 1406, Colour: 2}}, "Stock")
	b.run("fit = 0", "temple 10 L 1401 2 = ok", "fit = 1", "fit = 0")
	want[3] = frame(4, 5, 10, 8, api.FrameReady, 0, 0)
	same(t, b.w.Frames(), want, "Frames")
}

// P10.3: more pairs than frames: the first pairs are given, the other temples stay in stock.
func TestFitWithFewFrames(t *testing.T) {
	b := begun(t, setup(), append(append(polished(1, 5, 2, 0), pairs(11, 1, 2, 3)...), "temple 1 L 50 2", "temple 2 R 50 2")...)
	b.run("fit = 2")
	same(t, b.w.Frames(), []api.Frame{frame(1, 5, 11, 12, api.FrameReady, 0, 0), frame(2, 5, 13, 14, api.FrameReady, 0, 0)}, "Frames")
	var left []int
	for _, x := range b.w.Stock() {
		left = append(left, x.Number)
	}
	same(t, left, []int{1, 2, 15, 16}, "Stock")
	b.run("fit = 0", "cut 1 5 1 = 3 3", "fit = 0", "polish 3 = ok", "fit = 1")
	same(t, b.w.Frames()[2], frame(3, 5, 15, 16, api.FrameReady, 0, 0), "a frame")
}

// P10.3: Tol is the tolerance of pairs: 0, and the greatest.
func TestFitWithTol(t *testing.T) {
	for tol, want := range map[int]string{0: "1", 1: "2", 4: "2", 5: "3", 1000: "4"} {
		b := begun(t, changed(func(s *api.Setup) { s.Tol = tol }), polished(1, 5, 6, 0)...)
		b.lines("temple 1 L 100 1", "temple 2 R 100 1", "temple 3 L 200 1", "temple 4 R 201 1", "temple 5 L 305 1", "temple 6 R 300 1", "temple 7 L 500 1", "temple 8 R 1500 1")
		same(t, b.step("fit"), want, fmt.Sprint("fit with ", tol))
	}
}

// one accepts samples of n without a bad piece, in all states.
func one(n int) func(*api.Setup) {
	return func(s *api.Setup) {
		p := api.Plan{Sample: n}
		s.Scheme = api.Scheme{Normal: p, Tight: p, Reduced: p}
	}
}

// P10.3: a drawn frame is bad if its temples differ by more than half of Tol, rounded down.
func TestBadFrames(t *testing.T) {
	for tol, differences := range map[int]map[int]bool{
		0: {0: false}, 1: {0: false, 1: true}, 2: {1: false, 2: true}, 3: {1: false, 2: true}, 5: {0: false, 2: false, 3: true, 5: true}, 6: {3: false, 4: true}, 1000: {500: false, 501: true, 1000: true},
	} {
		for d, bad := range differences {
			for _, sides := range []string{"LR", "RL"} {
				b := begun(t, changed(func(s *api.Setup) { one(1)(s); s.Tol = tol }), polished(1, 5, 1, 0)...)
				b.lines(fmt.Sprintf("temple 1 %c 100 1", sides[0]), fmt.Sprintf("temple 2 %c %d 1", sides[1], 100+d), "fit")
				want := map[bool]string{false: "accepted 0", true: "refused 1"}[bad]
				same(t, b.step("inspect 7"), want, fmt.Sprintf("a difference of %d with Tol %d", d, tol))
			}
		}
	}
}

// P10.3: frames that are refused lose their temples, those that were drawn and are bad alone.
func TestInspect(t *testing.T) {
	drawn := map[string][]int{}
	for seed := 1; seed < 1_000_000_000; seed += 4_999_999 {
		b := begun(t, setup(), ready(5, 0, 3, 0, 0, 3, 0, 5)...)
		before := b.w.Frames()
		var bad []int
		for _, i := range must[[]int](t)(sample.Draw(seed, 7, 3)) {
			if i == 1 || i == 4 || i == 6 {
				bad = append(bad, i)
			}
		}
		want := fmt.Sprint("accepted ", len(bad))
		if len(bad) > 1 {
			want = fmt.Sprint("refused ", len(bad))
			for _, i := range bad {
				before[i] = frame(i+1, 5, 0, 0, api.FramePolished, 0, 0)
			}
		}
		same(t, b.step(fmt.Sprint("inspect ", seed)), want, "the answer")
		same(t, b.w.Frames(), before, "Frames")
		same(t, b.w.Stock(), []api.Temple{}, "Stock")
		same(t, b.w.Inspection(), []int{len(bad)}, "Inspection")
		drawn[want] = bad
	}
	same(t, len(drawn), 4, "different answers")
}

// P10.3: the pieces are the ready frames alone, in ascending order of Numbers; with few of them all are drawn.
func TestPieces(t *testing.T) {
	b := begun(t, setup(), append(ready(5, 3, 0, 3), "sell 1 1 170 0 0 0 0 A7 1000", "cut 1 5 2", "polish 4")...)
	b.run("inspect 5 = accepted 1", "inspect 999999999 = accepted 1")
	same(t, states(b.w), []int{api.FrameSold, api.FrameReady, api.FrameReady, api.FramePolished, api.FrameCut}, "states")
	b.run("sell 2 1 170 0 0 0 0 A7 1000 = 2", "inspect 1 = accepted 1", "return 1 = ok", "inspect 1 = accepted 1")
	strict := begun(t, changed(one(3)), append(ready(5, 0, 3), "sell 1 1 170 0 0 0 0 A7 1000")...)
	strict.run("inspect 1 = refused 1")
	same(t, strict.w.Frames(), []api.Frame{frame(1, 5, 1, 2, api.FrameSold, 1, 1), frame(2, 5, 0, 0, api.FramePolished, 0, 0)}, "Frames")
	strict.lines("temple 5 L 7 7", "temple 6 R 7 7")
	strict.run("inspect 1 = error 102", "fit = 1", "inspect 1 = accepted 0")
	same(t, strict.w.Frames()[1], frame(2, 5, 5, 6, api.FrameReady, 0, 0), "a frame")
}

// P10.3: ErrStock, unless 1 to MaxLot frames are ready.
func TestReadyFrames(t *testing.T) {
	b := newBench(t, setup())
	b.run("inspect 1 = error 102")
	b.lines("block 1 a 90 60 1", "day 7")
	for n := 0; n < 60; n += 20 {
		polish := "polish"
		for i := range 20 {
			polish += fmt.Sprint(" ", n+i+1)
		}
		b.lines("cut 1 5 20", polish)
		b.lines(pairs(2*n+1, make([]int, 20)...)...)
		b.run("fit = 20")
	}
	b.run("inspect 1 = accepted 0", "cut 1 5 1 = 61 61", "polish 61 = ok", "temple 121 L 5 5 = ok", "temple 122 R 5 5 = ok", "fit = 1", "inspect 1 = error 102", "inspect 0 = error 102", "sell 1 1 170 0 0 0 0 A7 1000 = 1", "inspect 0 = error 2", "inspect 1 = accepted 0")
}

// P10.3: the state of the inspection chooses the plan, up to the stop; ErrStopped comes first.
func TestStates(t *testing.T) {
	plans := api.Scheme{Normal: api.Plan{Sample: 2, Accept: 1}, Tight: api.Plan{Sample: 3, Accept: 0}, Reduced: api.Plan{Sample: 1, Accept: 0}}
	b := newBench(t, changed(func(s *api.Setup) { s.Scheme = plans }))
	b.lines("block 1 a 90 60 1", "day 7")
	next := 1
	var found []int
	seen := map[int]bool{}
	lot := func(differences ...int) string { // sells all frames that are ready, and makes new ones
		for i, s := range states(b.w) {
			if s == api.FrameReady {
				b.lines(fmt.Sprintf("sell %d 1 170 0 0 0 0 A7 1000", i+1))
			}
		}
		n := len(b.w.Frames())
		for i, d := range differences {
			b.lines("cut 1 5 1", fmt.Sprint("polish ", n+i+1), fmt.Sprintf("temple %d L %d 1", next, 100+20*i), fmt.Sprintf("temple %d R %d 1", next+1, 100+20*i+d))
			next += 2
		}
		b.lines("fit")
		state := must[int](t)(sample.State(plans, found))
		seen[state] = true
		answer := b.step("inspect 7")
		bad := b.w.Inspection()[len(found)]
		found = append(found, bad)
		history, _, err := sample.History(plans, found)
		verdict := map[bool]string{true: "accepted", false: "refused"}[history[len(found)-1].Accepted]
		if err != api.OK || answer != fmt.Sprint(verdict, " ", bad) {
			t.Fatalf("%v: %s, error %d", found, answer, err)
		}
		return answer
	}
	for range 10 { // normal
		same(t, lot(0, 0), "accepted 0", "a normal lot")
	}
	same(t, lot(0, 0), "accepted 0", "a reduced lot")
	same(t, lot(3), "refused 1", "a reduced lot")
	for range 2 {
		same(t, lot(3, 3), "refused 2", "a normal lot")
	}
	for range 5 {
		same(t, lot(0, 0, 3), "refused 1", "a tight lot")
	}
	same(t, len(seen), 3, "states")
	b.run("inspect 7 = error 51", "inspect 0 = error 51")
	b.lines("sell 900 1 170 0 0 0 0 A7 1000", "sell 901 1 170 0 0 0 0 A7 1000")
	if slices.Contains(states(b.w), api.FrameReady) {
		t.Errorf("states: %v", states(b.w))
	}
	b.run("inspect 7 = error 51")
	same(t, b.w.Inspection(), found, "Inspection")
}

// P10.3: the history has at most MaxLots numbers; ErrLimit comes ahead of ErrStock and of the errors of Draw.
func TestManyInspections(t *testing.T) {
	b := begun(t, setup(), ready(5, 0)...)
	b.lines(slices.Repeat([]string{"inspect 9"}, api.MaxLots)...)
	b.run("inspect 9 = error 4", "inspect 0 = error 4", "sell 1 1 170 0 0 0 0 A7 1000 = 1", "inspect 9 = error 4")
	same(t, b.w.Inspection(), make([]int, api.MaxLots), "Inspection")
}

// P10.3: the last lot may stop the inspection; then ErrStopped comes ahead of ErrLimit.
func TestStoppedByTheLastLot(t *testing.T) {
	b := begun(t, changed(one(1)), ready(5, 0)...)
	b.lines(slices.Repeat([]string{"inspect 9"}, 192)...)
	b.lines("sell 1 1 170 0 0 0 0 A7 1000", "cut 1 5 1", "polish 2")
	for i := range 8 { // one under reduced inspection, two under normal, five under tightened
		b.lines(pairs(2*i+3, 3)...)
		b.run("fit = 1", "inspect 9 = refused 1")
	}
	same(t, len(b.w.Inspection()), api.MaxLots, "lots")
	b.run("inspect 9 = error 51", "inspect 0 = error 51")
}

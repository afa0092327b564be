package sample_test

import (
	"math/rand/v2"
	"testing"

	"pantoscope/api"
	"pantoscope/sample"
)

// P5.2: the states in front of the lots and behind the last one, also the chapter's example 1.
func TestHistoryStates(t *testing.T) {
	for _, c := range [][2]string{
		{"", "N"}, {".", "NN"}, {"x", "NN"}, {"xx.....", "NNTTTTTN"},
		// Two refused of the last five tighten, two of six do not.
		{"x...x", "NNNNNT"}, {"x....x", "NNNNNNN"}, {"x....x...x", "NNNNNNNNNNT"}, {"....x...x", "NNNNNNNNNT"}, {"x....x....x", "NNNNNNNNNNNN"},
		// Ten accepted in a row reduce, but not with a refused one among them.
		{"..........", "NNNNNNNNNNR"}, {".........", "NNNNNNNNNN"}, {".....x....", "NNNNNNNNNNN"}, {"x.........", "NNNNNNNNNNN"}, {"x..........", "NNNNNNNNNNNR"},
		// One refused lot ends reduced inspection, and does not count under normal inspection.
		{"...........x", "NNNNNNNNNNRRN"}, {"..........xx", "NNNNNNNNNNRNN"}, {"..........xxx", "NNNNNNNNNNRNNT"}, {"..........x..........", "NNNNNNNNNNRNNNNNNNNNNR"},
		{"..........x.........", "NNNNNNNNNNRNNNNNNNNNN"}, {"..................................", "NNNNNNNNNNRRRRRRRRRRRRRRRRRRRRRRRRR"},
		// Five accepted in a row end tightened inspection; neither those before it nor the refused ones of before count.
		{"...xx..", "NNNNNTTT"}, {"xx....", "NNTTTTT"}, {"xx....x.....", "NNTTTTTTTTTTN"}, {"xx.....x", "NNTTTTTNN"}, {"xx.....xx", "NNTTTTTNNT"},
		{"xx...............", "NNTTTTTNNNNNNNNNNR"}, {"xx..............", "NNTTTTTNNNNNNNNNN"},
		// Five refused ones under tightened inspection stop it, also if they are far apart.
		{"xxxxxxx", "NNTTTTTS"}, {"xxxxxx", "NNTTTTT"}, {"xx....x....x....x....x....x", "NNTTTTTTTTTTTTTTTTTTTTTTTTTS"}, {"xxxxxx....", "NNTTTTTTTTT"}, {"xxxxxx.....", "NNTTTTTTTTTN"},
		{"xxxxxx.....xxxxxx", "NNTTTTTTTTTNNTTTTT"}, {"xxxxxx.....xxxxxxx", "NNTTTTTTTTTNNTTTTTS"},
	} {
		checkHistory(t, c[0], c[1])
	}
}

// checkHistory holds History and State of lots against states.
func checkHistory(t *testing.T, text, want string) {
	t.Helper()
	done, state, err := sample.History(example, lots(text))
	if err != api.OK || lettersOf(done, state) != want || marksOf(done) != text {
		t.Errorf("History(%s): %s, %s, %d, want %s", text, lettersOf(done, state), marksOf(done), err, want)
	}
	if behind := must[int](t)(sample.State(example, lots(text))); behind != state {
		t.Errorf("State(%s): %d, want %d", text, behind, state)
	}
}

// P5.2: the lots are judged by the plans of their states.
func TestHistoryPlans(t *testing.T) {
	s := api.Scheme{Normal: plan(10, 3), Tight: plan(20, 1), Reduced: plan(8, 5)}
	found := []int{3, 3, 0, 1, 2, 3, 3, 3, 3, 3, 5, 4, 8, 4, 10, 1, 2, 20, 1, 0, 1, 1, 1, 3}
	done, state, err := sample.History(s, found)
	const states, marks = "NNNNNNNNNNRRRNNTTTTTTTTNN", "............xxx.xx......"
	if lettersOf(done, state) != states || marksOf(done) != marks || err != api.OK {
		t.Errorf("%s, %s, %d", lettersOf(done, state), marksOf(done), err)
	}
}

// P5.2: all short histories, and many long ones.
func TestHistoryModel(t *testing.T) {
	check := func(text string) string {
		t.Helper()
		want := statesOf('N', text)
		if len(want) <= len(text) {
			for _, r := range [][]any{results(sample.History(example, lots(text))), results(sample.State(example, lots(text)))} {
				if !isError(r, api.ErrStopped) {
					t.Fatalf("%s: %v", text, r)
				}
			}
			return want
		}
		checkHistory(t, text, want)
		return want
	}
	texts := []string{""}
	for range 12 {
		for _, text := range texts {
			check(text)
		}
		var longer []string
		for _, text := range texts {
			longer = append(longer, text+accepted, text+refused)
		}
		texts = longer
	}
	r := rand.New(rand.NewPCG(1, 2))
	ends := map[byte]int{}
	for range 5000 {
		want := check(randomLots(r, api.MaxLots))
		ends[want[len(want)-1]]++
	}
	for _, c := range "NTRS" {
		if ends[byte(c)] < 100 {
			t.Errorf("only %d end in %c", ends[byte(c)], c)
		}
	}
}

// P5.2: ErrPlan, ErrLimit, and then ErrStopped and ErrArg lot by lot.
func TestHistoryErrors(t *testing.T) {
	check := func(s api.Scheme, found []int, want api.Errno) {
		t.Helper()
		for _, r := range [][]any{results(sample.History(s, found)), results(sample.State(s, found))} {
			if !isError(r, want) {
				t.Errorf("%v, %v: %v, want %d", s, found, r, want)
			}
		}
	}
	many := make([]int, 201)
	many[3] = -1
	for _, s := range badSchemes() {
		check(s, nil, api.ErrPlan)
		check(s, many, api.ErrPlan)
		check(s, []int{-1}, api.ErrPlan)
	}
	check(example, many, api.ErrLimit)
	check(example, make([]int, 201), api.ErrLimit)
	check(example, make([]int, 100_000), api.ErrLimit)
	check(example, lots(times(201, refused)), api.ErrLimit)
	check(example, lots(times(8, refused)), api.ErrStopped)
	check(example, lots(times(200, refused)), api.ErrStopped)
	for _, n := range wild {
		check(example, []int{n}, api.ErrArg)
		check(example, []int{0, n, 0}, api.ErrArg)
		check(example, append(lots("xxxxxxx"), n), api.ErrStopped)
		check(example, append(lots("xxxxxx"), n, 0, 0), api.ErrArg)
		check(example, append([]int{n}, lots("xxxxxxxx")...), api.ErrArg)
		check(example, append(lots("xxxxxxxx"), n), api.ErrStopped)
	}
}

// P5.2: a number may be as great as the Sample of the plan of its state, and no greater.
func TestHistoryNumbers(t *testing.T) {
	for _, c := range []struct {
		before string
		most   int
	}{{"", 5}, {"xx", 8}, {"..........", 3}, {"xx.....", 5}, {"..........x", 5}} {
		good, bad := append(lots(c.before), c.most), append(lots(c.before), c.most+1)
		if _, err := sample.State(example, good); err != api.OK {
			t.Errorf("%v: error %d", good, err)
		}
		if r := results(sample.History(example, bad)); !isError(r, api.ErrArg) {
			t.Errorf("%v: %v", bad, r)
		}
	}
}

// P5.2: as many lots as there may be.
func TestHistoryMost(t *testing.T) {
	done, state, err := sample.History(example, make([]int, api.MaxLots))
	if len(done) != api.MaxLots || state != api.InspectReduced || err != api.OK {
		t.Errorf("%d lots, %d, %d", len(done), state, err)
	}
}

// P5.3: behind a stop the inspection is tightened, as if it was newly entered.
func TestRestart(t *testing.T) {
	for _, stopped := range []string{"xxxxxxx", "xx....xxxxx", "..........xxxxxxxx"} {
		for _, c := range [][2]string{
			{"", "T"}, {"....", "TTTTT"}, {".....", "TTTTTN"}, {"xxxxx", "TTTTTS"}, {"xxxx", "TTTTT"}, {"xxxx.....", "TTTTTTTTTN"}, {".....xx", "TTTTTNNT"},
			{"...............", "TTTTTNNNNNNNNNNR"}, {times(5, "....x"), times(25, "T") + "S"},
		} {
			done, state, err := sample.Restart(example, lots(stopped), lots(c[0]))
			if err != api.OK || lettersOf(done, state) != c[1] || marksOf(done) != c[0] {
				t.Errorf("%s, %s: %s, %s, %d", stopped, c[0], lettersOf(done, state), marksOf(done), err)
			}
		}
	}
	if done, state, err := sample.Restart(example, lots("xxxxxxx"), make([]int, api.MaxLots)); len(done) != api.MaxLots || state != api.InspectReduced || err != api.OK {
		t.Errorf("%d lots, %d, %d", len(done), state, err)
	}
}

// P5.3: many lots behind a stop.
func TestRestartModel(t *testing.T) {
	r := rand.New(rand.NewPCG(3, 4))
	for range 3000 {
		text := randomLots(r, api.MaxLots)
		want := statesOf('T', text)
		done, state, err := sample.Restart(example, lots("xxxxxxx"), lots(text))
		if len(want) <= len(text) {
			if !isError(results(done, state, err), api.ErrStopped) {
				t.Fatalf("%s: %v, %d, %d", text, done, state, err)
			}
		} else if err != api.OK || lettersOf(done, state) != want || marksOf(done) != text {
			t.Fatalf("%s: %s, %d, want %s", text, lettersOf(done, state), err, want)
		}
	}
}

// P5.3: the errors of the lots before, ErrArg if they do not stop the inspection, and the errors of the lots behind them.
func TestRestartErrors(t *testing.T) {
	stopped := lots("xxxxxxx")
	check := func(s api.Scheme, found, more []int, want api.Errno) {
		t.Helper()
		if r := results(sample.Restart(s, found, more)); !isError(r, want) {
			t.Errorf("%v, %v, %v: %v, want %d", s, found, more, r, want)
		}
	}
	long, wrong := make([]int, 201), []int{0, 9}
	for _, s := range badSchemes() {
		check(s, stopped, nil, api.ErrPlan)
		check(s, long, wrong, api.ErrPlan)
	}
	for _, more := range [][]int{nil, long, wrong, lots("xxxxxx")} {
		check(example, long, more, api.ErrLimit)
		check(example, append(stopped, 0), more, api.ErrStopped)
		check(example, []int{0, 6}, more, api.ErrArg)
		for _, before := range []string{"", "..........", "xx", "x", "xxxxxx"} {
			check(example, lots(before), more, api.ErrArg)
		}
	}
	check(example, stopped, long, api.ErrLimit)
	check(example, stopped, lots("xxxxxx"), api.ErrStopped)
	check(example, stopped, wrong, api.ErrArg)
	check(example, stopped, append(lots("....."), 6), api.ErrArg)
	check(example, stopped, append(lots("xxxxx"), -1), api.ErrStopped)
	for _, n := range wild {
		check(example, stopped, []int{n}, api.ErrArg)
		check(example, append(stopped, n), nil, api.ErrStopped)
	}
}

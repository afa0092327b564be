package works_test

import (
	"fmt"
	"math/rand/v2"
	"slices"
	"strings"
	"testing"

	"pantoscope/api"
	"pantoscope/last"
	"pantoscope/works"
)

// pick is one of a list.
func pick[T any](r *rand.Rand, list ...T) T { return list[r.IntN(len(list))] }

// randomSetup has plans that lead from state to state soon, and few sizes.
func randomSetup(r *rand.Rand) api.Setup {
	s := setup()
	s.Tol = pick(r, 0, 1, 4, 5, 1000)
	if r.IntN(3) > 0 {
		one(1 + r.IntN(3))(&s)
	}
	for i := range s.Sizes {
		for j := range 5 {
			s.Sizes[i].From[j] = max(s.Sizes[i].From[j], r.IntN(30))
			s.Sizes[i].Bend[j] = r.IntN(30)
		}
	}
	return s
}

// randomLine is a line for a works, mostly one that has something to do.
func randomLine(r *rand.Rand, w *works.Works) string {
	frames := w.Frames()
	number := func(state int) int { // of a frame, mostly in this state
		for range 10 {
			if i := r.IntN(len(frames) + 1); i < len(frames) && frames[i].State == state {
				return i + 1
			}
		}
		return r.IntN(len(frames) + 3)
	}
	lot := func() int { return pick(r, 0, 1, 1, 1, 2, 3, 11, 11, 12, 21, 23, 39) }
	ref := func() int { // mostly of an order
		if book := w.Book(); len(book) > 0 && r.IntN(4) > 0 {
			return pick(r, book...).Ref
		}
		return r.IntN(60)
	}
	switch r.IntN(21) {
	case 0:
		return fmt.Sprint("day ", w.Day()+pick(r, 0, 1, 2, 7, 7, 8, 700, -1, -9))
	case 1, 2:
		return fmt.Sprintf("block %d %s", lot(), pick(r, "a 16 6 2", "b 24 9 1", "c 8 3 1", "turn z (b 9 24 1)", "stack x (d 12 6 1, c 12 6 1)", "a 1 1 1", "a 0 1 1", "a 16 6", "a 300 1 1", "stack x (a 1 1 1, b 2 2 2)"))
	case 3, 4:
		return fmt.Sprintf("cut %d %d %d", lot(), pick(r, 3, 5, 7, 5, 4), pick(r, 0, 1, 1, 2, 3, 4, 21))
	case 5, 6:
		line := "polish"
		for range pick(r, 0, 1, 1, 2, 2, 3, 4, 21) {
			line += fmt.Sprint(" ", number(api.FrameCut))
		}
		return line
	case 7, 8, 9, 10:
		return fmt.Sprintf("temple %d %s %d %d", r.IntN(500), pick(r, "L", "L", "R"), 1400+r.IntN(20), pick(r, 1, 1, 1, 2, 0))
	case 11:
		return "fit"
	case 12, 19:
		return fmt.Sprint("inspect ", pick(r, 0, 1, 1+r.IntN(999_999_999), 1+r.IntN(999_999_999)))
	case 13, 14, 15:
		name := pick(r, "A7", "A7", "A7", "A7", "FREE", "B7")
		price, _ := (&model{setup: setup(), day: w.Day()}).price(name)
		return fmt.Sprintf("sell %d %d %d %d %d %d %d %s %d", r.IntN(60), pick(r, 1, 2, 3, 4, 5, 0), pick(r, 150, 170, 190, 210, 230, 250, 300), r.IntN(40), r.IntN(40), 40, pick(r, 50, 60, 70, 4000), name, price+pick(r, 0, 0, 0, 1))
	case 16:
		return fmt.Sprintf("pay %d %d", ref(), pick(r, 0, 1, 1000, 999_999_999))
	case 17:
		return fmt.Sprint("return ", number(api.FrameSold))
	case 18:
		return pick(r, noDeeds...)
	}
	return pick(r, "fit", "day 7 ", "cut 1 5", "fit  ")
}

// outcome is a deed with its error, or with the first word of its answer that is no number.
func outcome(line, answer string) string {
	name, _, _ := strings.Cut(line, " ")
	if strings.HasPrefix(answer, "error ") {
		return name + " " + answer
	}
	return name + " " + strings.TrimRight(answer, "-x 0123456789")
}

// P10.3, P10.7, P10.8: works are held against the model by random lines.
func TestModel(t *testing.T) {
	r := rand.New(rand.NewPCG(1, 2))
	seen := map[string]int{}
	for range 150 {
		s := randomSetup(r)
		b, m := newBench(t, s), newModel(t, s)
		for range 500 {
			line := randomLine(r, b.w)
			want, err := m.do(line)
			if err != api.OK {
				want = fmt.Sprint("error ", int(err))
			}
			before := b.w.Frames()
			if got := doing(b.w, line); got != want {
				t.Fatalf("%q behind %q: %s, not %s", line, b.w.Lines(), got, want)
			}
			seen[outcome(line, want)]++
			balances(t, b.w)
			if strings.HasPrefix(line, "sell ") && err == api.OK {
				fitsBest(t, s, line, want, before)
			}
		}
		same(t, view(b.w), m.view(), "the works")
		b.open()
		same(t, view(b.w), m.view(), "the works opened again")
	}
	for _, want := range []string{
		"day ok", "day error 2", "block ", "block error 2", "block error 3", "block error 4", "block error 6", "block error 20", "block error 21",
		"cut ", "cut error 2", "cut error 5", "cut error 31", "cut error 101", "cut error 102", "polish ok", "polish error 2", "polish error 5", "polish error 61", "polish error 101",
		"temple ok", "temple error 6", "temple error 40", "temple error 4", "fit ", "inspect accepted", "inspect refused", "inspect error 2", "inspect error 51", "inspect error 102",
		"sell ", "sell error 6", "sell error 30", "sell error 32", "sell error 82", "sell error 90", "pay ", "pay error 5", "pay error 6", "pay error 90", "return ok", "return error 2", "return error 5", "return error 101",
	} {
		if seen[want] < 5 {
			t.Errorf("%q: only %d times", want, seen[want])
		}
	}
}

// balances expects P10.7 and P10.8.
func balances(t *testing.T, w *works.Works) {
	t.Helper()
	temples := map[int]int{}
	for _, x := range w.Stock() {
		temples[x.Number]++
	}
	var orders, invoices, sold, recalled []int
	lots := map[int]bool{}
	for i, f := range w.Frames() {
		has := f.State == api.FrameReady || f.State == api.FrameSold || f.State == api.FrameBack
		if f.Number != i+1 || f.State < api.FrameCut || f.State > api.FrameBack || (f.Left > 0) != has || (f.Right > 0) != has {
			t.Fatalf("frame %v", f)
		}
		if has {
			temples[f.Left]++
			temples[f.Right]++
		}
		if is := f.State >= api.FrameSold; is != (f.Ref > 0) || is != (f.Head > 0) {
			t.Fatalf("frame %v", f)
		}
		if f.Ref > 0 {
			orders = append(orders, f.Ref)
		}
		if f.State == api.FrameSold {
			sold = append(sold, f.Number)
		}
		lots[f.Lot] = true
	}
	for n, times := range temples {
		if times != 1 {
			t.Fatalf("temple %d is there %d times", n, times)
		}
	}
	for _, e := range w.Book() {
		if e.Kind == api.EntryInvoice {
			invoices = append(invoices, e.Ref)
		}
	}
	slices.Sort(orders)
	same(t, invoices, orders, "the invoices")
	for lot := range lots {
		for _, n := range must[[]int](t)(w.Recall(lot)) {
			if w.Frames()[n-1].Lot != lot {
				t.Fatalf("Recall(%d) names frame %d of another lot", lot, n)
			}
			recalled = append(recalled, n)
		}
	}
	slices.Sort(recalled)
	same(t, recalled, sold, "what is recalled")
}

// fitsBest expects P10.11 of a frame that was sold, with the frames in front of that.
func fitsBest(t *testing.T, s api.Setup, line, answer string, frames []api.Frame) {
	t.Helper()
	var ref, number int
	h := api.Head{Number: 1}
	fmt.Sscanf(line, "sell %d %d %d %d %d %d %d", &ref, &number, &h.M[0], &h.M[1], &h.M[2], &h.M[3], &h.M[4])
	needs := func(code int) (int, bool) {
		z := s.Sizes[slices.IndexFunc(s.Sizes, func(z api.Size) bool { return z.Code == code })]
		all := 0
		for _, n := range must[[5]int](t)(last.Need(z, h)) {
			all += n
		}
		return all, must[bool](t)(last.Fits(z, h))
	}
	fmt.Sscan(answer, &number)
	least, fits := needs(frames[number-1].Size)
	if !fits || frames[number-1].State != api.FrameReady {
		t.Fatalf("%s: frame %v", line, frames[number-1])
	}
	for _, f := range frames {
		if n, ok := needs(f.Size); f.State == api.FrameReady && ok && n < least {
			t.Fatalf("%s: frame %d, although frame %d needs less", line, number, f.Number)
		}
	}
}

// P10.9: each line, with an error or not, leaves a works that Open gives again.
func TestReplays(t *testing.T) {
	r := rand.New(rand.NewPCG(3, 4))
	for range 12 {
		b := newBench(t, randomSetup(r))
		for range 200 {
			b.step(randomLine(r, b.w))
			if r.IntN(10) == 0 {
				b.open()
			}
		}
	}
}

// P10.10: behind a loss of power there are the deeds that were answered, and perhaps the one under way.
func TestCrashes(t *testing.T) {
	r := rand.New(rand.NewPCG(5, 6))
	behind := map[bool]int{}
	for range 60 {
		s := randomSetup(r)
		b := newBench(t, s)
		var done []string
		for range 150 {
			line := randomLine(r, b.w)
			armed := r.IntN(3) == 0
			if armed {
				b.d.Arm(1, pick(r, -1, 0, r.IntN(4000), r.IntN(4000), 1<<17))
			}
			before := view(b.w)
			_, err := b.w.Do(line)
			b.d.Arm(0, 0)
			if err == api.OK {
				done = append(done, line)
			}
			if err != api.ErrDown {
				continue
			}
			same(t, view(b.w), before, "the works that lost its power")
			b.d.Restart()
			b.open()
			found := b.w.Lines()
			underWay := len(found) > len(done)
			if underWay {
				done = append(done, line)
			}
			behind[underWay]++
			same(t, found, done, "Lines")
			same(t, view(b.w), view(begun(t, s, done...).w), "the works behind a loss of power")
		}
	}
	if behind[true] < 50 || behind[false] < 50 {
		t.Errorf("losses with the deed under way, and without: %v", behind)
	}
}

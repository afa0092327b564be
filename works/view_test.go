package works_test

import (
	"slices"
	"strings"
	"testing"

	"pantoscope/api"
	"pantoscope/works"
)

// P10.4: what a works shows, behind deeds of each kind.
func TestViews(t *testing.T) {
	lines := append(shelf(5, 7, 5), "temple 9 R 300 4", "temple 8 L 200 4", "inspect 3", "sell 6 2 170 0 0 0 0 A7 1000", "sell 4 1 230 0 0 0 0 A7 1000", "pay 6 1", "return 1", "cut 1 3 1")
	b := begun(t, setup(), lines...)
	b.run("day 6 = error 2", "dance = error 100")
	same(t, b.w.Lines(), lines, "Lines")
	same(t, b.w.Day(), 7, "Day")
	same(t, b.w.Frames(), []api.Frame{frame(1, 5, 1, 2, api.FrameBack, 2, 6), frame(2, 7, 3, 4, api.FrameSold, 1, 4), frame(3, 5, 5, 6, api.FrameReady, 0, 0), frame(4, 3, 0, 0, api.FrameCut, 0, 0)}, "Frames")
	same(t, b.w.Stock(), []api.Temple{{Number: 8, Side: api.SideLeft, Length: 200, Colour: 4}, {Number: 9, Side: api.SideRight, Length: 300, Colour: 4}}, "Stock")
	same(t, b.w.Book(), []api.Entry{
		{Kind: api.EntryInvoice, Ref: 4, Day: 7, Cents: 1000}, {Kind: api.EntryInvoice, Ref: 6, Day: 7, Cents: 1000}, {Kind: api.EntryPay, Ref: 6, Day: 7, Cents: 1},
		{Kind: api.EntryCredit, Ref: 6, Day: 7, Cents: 1000}, {Kind: api.EntryReturn, Ref: 6, Day: 7},
	}, "Book")
	same(t, b.w.Inspection(), []int{0}, "Inspection")
}

// P10.4, P10.5, R7: a nil works, and a zero value, show nothing.
func TestNoWorks(t *testing.T) {
	for _, w := range []*works.Works{nil, {}} {
		if len(w.Lines())+w.Day()+len(w.Frames())+len(w.Stock())+len(w.Book())+len(w.Inspection()) != 0 {
			t.Errorf("%v shows %s", w, view(w))
		}
		for _, lot := range []int{-1, 0, 1} {
			if list, err := w.Recall(lot); len(list) != 0 || err != api.ErrNone {
				t.Errorf("Recall(%d): %v, %d", lot, list, err)
			}
		}
		expect(t, errorOf(w.Do("day 1")), api.ErrDown, "Do")
	}
}

// recalled is what Recall returns for a lot that there is.
func (b *bench) recalled(lot int, want ...int) {
	b.t.Helper()
	same(b.t, must[[]int](b.t)(b.w.Recall(lot)), want, "Recall")
}

// P10.5: the frames of a lot that were sold and have not come back.
func TestRecall(t *testing.T) {
	b := begun(t, setup(), "block 2 a 90 60 1", "block 12 a 90 60 1", "block 3 a 8 3 1", "day 7")
	b.lines("cut 2 5 2", "cut 12 5 2", "cut 2 5 2", "polish 1 2 3 4 5 6")
	b.lines(append(pairs(1, 0, 0, 0, 0, 0, 0), "fit")...)
	b.recalled(2)
	for i, sold := range []string{"1", "2", "3", "4", "5", "6"} {
		if i == 3 {
			b.recalled(2, 1, 2)
			b.recalled(12, 3)
		}
		b.run("sell " + sold + " 1 170 0 0 0 0 A7 1000 = " + sold)
	}
	b.recalled(2, 1, 2, 5, 6)
	b.recalled(12, 3, 4)
	b.recalled(3)
	b.run("return 2 = ok", "return 4 = ok")
	b.recalled(2, 1, 5, 6)
	b.recalled(12, 3)
	b.run("return 3 = ok", "return 1 = ok", "return 6 = ok")
	b.recalled(2, 5)
	b.recalled(12)
	for _, lot := range []int{0, 1, -1, 4, 22, 1 << 40} {
		if list, err := b.w.Recall(lot); len(list) != 0 || err != api.ErrNone {
			t.Errorf("Recall(%d): %v, %d", lot, list, err)
		}
	}
}

// P10.6: the answers of Do, and the numbers of errors.
func TestPlay(t *testing.T) {
	lines := append(shelf(5, 3), "dance", "day 3", "inspect 1", "sell 8 4 170 0 0 0 0 A7 1000", "sell 8 4 170 0 0 0 0 A7 1000", "pay 8 1200", "return 1", "return 1", "", strings.Repeat("x", api.MaxImage), "cut 1 5 200")
	want := []string{"90x60x1", "ok", "1 1", "2 2", "ok", "ok", "ok", "ok", "ok", "2", "error 100", "error 2", "accepted 0", "1", "error 6", "-200", "ok", "error 101", "error 100", "error 4", "error 102"}
	given := slices.Clone(lines)
	for range 2 {
		same(t, must[[]string](t)(works.Play(setup(), lines)), want, "Play")
		same(t, lines, given, "the lines")
	}
	for _, none := range [][]string{nil, {}} {
		same(t, must[[]string](t)(works.Play(setup(), none)), []string{}, "Play of nothing")
	}
}

// P10.6, R2: ErrArg comes ahead of ErrLimit.
func TestPlayErrors(t *testing.T) {
	script := slices.Repeat([]string{"fit"}, api.MaxScript)
	same(t, must[[]string](t)(works.Play(setup(), script)), slices.Repeat([]string{"0"}, api.MaxScript), "Play")
	for _, long := range [][]string{append(script, "fit"), make([]string, 1000)} {
		if answers, err := works.Play(setup(), long); len(answers) != 0 || err != api.ErrLimit {
			t.Errorf("%d lines: %d answers, error %d", len(long), len(answers), err)
		}
	}
	for name, s := range badSetups() {
		for _, lines := range [][]string{nil, {"day 1"}, append(script, "fit")} {
			if answers, err := works.Play(s, lines); len(answers) != 0 || err != api.ErrArg {
				t.Errorf("%s: %v, error %d", name, answers, err)
			}
		}
	}
}

package works_test

import (
	"math"
	"strings"
	"testing"

	"pantoscope/api"
	"pantoscope/ledger"
	"pantoscope/works"
)

// changed is the setup with one thing changed.
func changed(change func(*api.Setup)) api.Setup {
	s := setup()
	change(&s)
	return s
}

// badSetups are setups each of which has one thing wrong.
func badSetups() map[string]api.Setup {
	return map[string]api.Setup{
		"zero":            {},
		"size":            changed(func(s *api.Setup) { s.Sizes[1].Code = 0 }),
		"same code":       changed(func(s *api.Setup) { s.Sizes[1].Code = 7 }),
		"many sizes":      changed(func(s *api.Setup) { s.Sizes = manySizes(21) }),
		"price":           changed(func(s *api.Setup) { s.Prices[1].Model = "a7" }),
		"same day":        changed(func(s *api.Setup) { s.Prices[1].Day = 10 }),
		"no steps":        changed(func(s *api.Setup) { s.Prices[2].Steps = nil }),
		"normal plan":     changed(func(s *api.Setup) { s.Scheme.Normal = api.Plan{} }),
		"tight plan":      changed(func(s *api.Setup) { s.Scheme.Tight.Sample = 2 }),
		"reduced plan":    changed(func(s *api.Setup) { s.Scheme.Reduced.Sample = 4 }),
		"negative Tol":    changed(func(s *api.Setup) { s.Tol = -1 }),
		"great Tol":       changed(func(s *api.Setup) { s.Tol = 1001 }),
		"least Tol":       changed(func(s *api.Setup) { s.Tol = math.MinInt }),
		"greatest Tol":    changed(func(s *api.Setup) { s.Tol = math.MaxInt }),
		"sizes and plans": changed(func(s *api.Setup) { s.Sizes[0].Total, s.Scheme.Normal.Sample = -1, 61 }),
	}
}

func manySizes(n int) []api.Size {
	var list []api.Size
	for i := range n {
		list = append(list, sized(i+1, 160, 200))
	}
	return list
}

// P10.1: valid setups, and ones with one thing wrong.
func TestValidSetup(t *testing.T) {
	for name, s := range map[string]api.Setup{
		"ordinary":   setup(),
		"least Tol":  changed(func(s *api.Setup) { s.Tol = 0 }),
		"great Tol":  changed(func(s *api.Setup) { s.Tol = 1000 }),
		"no sizes":   changed(func(s *api.Setup) { s.Sizes = nil }),
		"no prices":  changed(func(s *api.Setup) { s.Prices = []api.Price{} }),
		"20 sizes":   changed(func(s *api.Setup) { s.Sizes = manySizes(20) }),
		"plan alone": {Scheme: setup().Scheme},
	} {
		if !works.ValidSetup(s) {
			t.Errorf("%s: not valid", name)
		}
		if w, err := works.Open(s, ledger.NewDisk()); w == nil || err != api.OK {
			t.Errorf("%s: Open: %v, %d", name, w, err)
		}
	}
	for name, s := range badSetups() {
		if works.ValidSetup(s) {
			t.Errorf("%s: valid", name)
		}
	}
}

// P10.1: a new disk gives a works in which nothing was done.
func TestOpenOfANewDisk(t *testing.T) {
	d := ledger.NewDisk()
	d.Arm(1, 0)
	w := must[*works.Works](t)(works.Open(setup(), d))
	same(t, view(w), view(nil), "a new works")
	if d.Down() {
		t.Error("Open writes")
	}
}

// P10.1: a works is what the lines of the image make it.
func TestOpen(t *testing.T) {
	lines := append(ready(5, 0, 1), "sell 8 4 170 0 0 0 0 A7 1000", "temple 9 L 7 7", "inspect 3")
	d := diskWith(t, strings.Join(lines, "\n")+"\n")
	before := slots(t, d)
	d.Arm(1, 0)
	w := must[*works.Works](t)(works.Open(setup(), d))
	if d.Down() {
		t.Error("Open writes")
	}
	same(t, slots(t, d), before, "the disk")
	same(t, w.Lines(), lines, "Lines")
	same(t, w.Day(), 7, "Day")
	same(t, w.Frames(), []api.Frame{frame(1, 5, 1, 2, api.FrameSold, 4, 8), frame(2, 5, 3, 4, api.FrameReady, 0, 0)}, "Frames")
	same(t, w.Stock(), []api.Temple{{Number: 9, Side: api.SideLeft, Length: 7, Colour: 7}}, "Stock")
	same(t, w.Book(), []api.Entry{{Kind: api.EntryInvoice, Ref: 8, Day: 7, Cents: 1000}}, "Book")
	same(t, w.Inspection(), []int{0}, "Inspection")
	d.Arm(0, 0)
	expect(t, errorOf(w.Do("day 8")), api.OK, "Do")
	image, turn := imageOf(t, d)
	same(t, image, strings.Join(lines, "\n")+"\nday 8\n", "the image")
	same(t, turn, 2, "the turn")
}

func errorOf[T any](_ T, err api.Errno) api.Errno { return err }

// P10.1: a line with an error, and a last line without its line feed, are ErrForm.
func TestOpenImages(t *testing.T) {
	for image, want := range map[string]api.Errno{
		"":                                    api.OK,
		"day 3\n":                             api.OK,
		"day 3\nday 3\nfit\n":                 api.OK,
		"block 1 a 8 3 1\nday 7\ncut 1 5 1\n": api.OK,
		"day 3":                               api.ErrForm,
		"day 3\nday 4":                        api.ErrForm,
		"day 3\nd":                            api.ErrForm,
		"\n":                                  api.ErrForm,
		"day 3\n\n":                           api.ErrForm,
		"\nday 3\n":                           api.ErrForm,
		"day 3\n\nday 3\n":                    api.ErrForm,
		"day 3\nday 2\n":                      api.ErrForm,
		"day 3\r\n":                           api.ErrForm,
		"day 3\nnothing\nday 4\n":             api.ErrForm,
		"block 1 a 8 3 1\nday 6\ncut 1 5 1\n": api.ErrForm,
		"cut 1 5 1\n":                         api.ErrForm,
		"\x00":                                api.ErrForm,
		strings.Repeat("fit\n", 1000):         api.OK,
	} {
		d := diskWith(t, image)
		w, err := works.Open(setup(), d)
		if err != want || (w == nil) != (want != api.OK) {
			t.Errorf("%.40q: %v, error %d, not %d", image, w, err, want)
		}
		found, turn := imageOf(t, d)
		same(t, found, image, "the image")
		same(t, turn, 1, "the turn")
	}
}

// P10.1, R2: ErrArg comes ahead of ErrDown, and this ahead of ErrForm.
func TestOpenErrors(t *testing.T) {
	bad := diskWith(t, "day")
	down := diskWith(t, "day")
	down.Arm(1, 0)
	expect(t, down.Write(0, nil), api.ErrDown, "Write")
	for name, s := range badSetups() {
		for _, d := range []*ledger.Disk{nil, {}, bad, down, ledger.NewDisk()} {
			if w, err := works.Open(s, d); w != nil || err != api.ErrArg {
				t.Errorf("%s: %v, error %d", name, w, err)
			}
		}
	}
	for _, d := range []*ledger.Disk{nil, {}, down} {
		if w, err := works.Open(setup(), d); w != nil || err != api.ErrDown {
			t.Errorf("%v, error %d", w, err)
		}
	}
	down.Restart()
	for _, d := range []*ledger.Disk{bad, down} {
		if w, err := works.Open(setup(), d); w != nil || err != api.ErrForm {
			t.Errorf("%v, error %d", w, err)
		}
	}
}

package works_test

import (
	"fmt"
	"reflect"
	"strconv"
	"strings"
	"testing"

	"pantoscope/api"
	"pantoscope/ledger"
	"pantoscope/works"
)

// must stops a test if a call that has to succeed does not.
func must[T any](t *testing.T) func(T, api.Errno) T {
	return func(v T, e api.Errno) T {
		t.Helper()
		if e != api.OK {
			t.Fatalf("error %d", e)
		}
		return v
	}
}

// expect expects an error, or none.
func expect(t *testing.T, got, want api.Errno, call string) {
	t.Helper()
	if got != want {
		t.Fatalf("%.80s: error %d, not %d", call, got, want)
	}
}

// same expects two values to be equal; an empty list and a nil one are.
func same(t *testing.T, got, want any, what string) {
	t.Helper()
	if fmt.Sprintf("%#v", got) == fmt.Sprintf("%#v", want) {
		return
	}
	if v, w := reflect.ValueOf(got), reflect.ValueOf(want); v.Kind() == reflect.Slice && v.Len() == 0 && w.Len() == 0 {
		return
	}
	t.Fatalf("%.80s: %v, not %v", what, got, want)
}

// sized is a size that fits bridges from..to, and anything else.
func sized(code, from, to int) api.Size {
	s := api.Size{Code: code, Total: 30}
	for i := range s.To {
		s.To[i], s.Bend[i] = api.MaxMeasure, 20
	}
	s.From[0], s.To[0] = from, to
	return s
}

// setup is a setup in which temples may differ by 5, and are bad if they differ by more than 2.
func setup() api.Setup {
	return api.Setup{
		Sizes: []api.Size{sized(7, 200, 240), sized(5, 160, 200), sized(3, 180, 220)},
		Prices: []api.Price{
			{Model: "A7", Day: 10, Steps: []api.Step{{Count: 1, Cents: 1200}}},
			{Model: "A7", Steps: []api.Step{{Count: 1, Cents: 1000}, {Count: 2, Cents: 900}}},
			{Model: "FREE", Steps: []api.Step{{Count: 1}}},
		},
		Scheme: api.Scheme{Normal: api.Plan{Sample: 3, Accept: 1}, Tight: api.Plan{Sample: 4}, Reduced: api.Plan{Sample: 2}},
		Tol:    5,
	}
}

// doing is the answer to a line, or the error as Play writes it.
func doing(w *works.Works, line string) string {
	answer, err := w.Do(line)
	if err == api.OK {
		return answer
	}
	return answer + "error " + strconv.Itoa(int(err))
}

// view is all that a works shows.
func view(w *works.Works) string {
	return fmt.Sprintf("lines %q, day %d, frames %v, stock %v, book %v, inspection %v", w.Lines(), w.Day(), w.Frames(), w.Stock(), w.Book(), w.Inspection())
}

// bench is a works on its disk.
type bench struct {
	t     *testing.T
	setup api.Setup
	d     *ledger.Disk
	w     *works.Works
}

func newBench(t *testing.T, s api.Setup) *bench {
	t.Helper()
	b := &bench{t: t, setup: s, d: ledger.NewDisk()}
	b.open()
	return b
}

// begun is a bench behind lines that have no errors.
func begun(t *testing.T, s api.Setup, lines ...string) *bench {
	t.Helper()
	b := newBench(t, s)
	b.lines(lines...)
	return b
}

// open opens the works on the disk anew.
func (b *bench) open() {
	b.t.Helper()
	b.w = must[*works.Works](b.t)(works.Open(b.setup, b.d))
}

// lines does lines that have no errors.
func (b *bench) lines(lines ...string) {
	b.t.Helper()
	for _, line := range lines {
		if _, err := b.w.Do(line); err != api.OK {
			b.t.Fatalf("%s: error %d", line, err)
		}
	}
}

// run does lines that have their answers behind them.
func (b *bench) run(script ...string) {
	b.t.Helper()
	for _, s := range script {
		i := strings.LastIndex(s, " = ")
		line, want := s[:i], s[i+len(" = "):]
		if got := b.step(line); got != want {
			b.t.Fatalf("%.80q: %s, not %s", line, got, want)
		}
	}
}

// step does a line; whatever it is, P10.9 has to hold.
func (b *bench) step(line string) string {
	b.t.Helper()
	before, disk := view(b.w), slots(b.t, b.d)
	answer := doing(b.w, line)
	if after := view(b.w); strings.HasPrefix(answer, "error ") && after != before {
		b.t.Fatalf("%.80q: %s changes %s to %s", line, answer, before, after)
	}
	if strings.HasPrefix(answer, "error ") {
		same(b.t, slots(b.t, b.d), disk, "the disk behind an error")
	}
	again := must[*works.Works](b.t)(works.Open(b.setup, b.d.Copy()))
	same(b.t, view(again), view(b.w), "the works opened again")
	return answer
}

// slots are the bytes of a disk that is up.
func slots(t *testing.T, d *ledger.Disk) [2]string {
	t.Helper()
	var all [2]string
	for i := range all {
		all[i] = string(must[[]byte](t)(d.Read(i)))
	}
	return all
}

// diskWith is a disk with an image.
func diskWith(t *testing.T, image string) *ledger.Disk {
	t.Helper()
	d := ledger.NewDisk()
	j := must[*ledger.Journal](t)(ledger.Open(d))
	expect(t, j.Save([]byte(image)), api.OK, "Save")
	return d
}

// imageOf is the image on a disk, with its turn.
func imageOf(t *testing.T, d *ledger.Disk) (string, int) {
	t.Helper()
	j := must[*ledger.Journal](t)(ledger.Open(d))
	return string(j.Image()), j.Turn()
}

// polished are the lines that make n frames, at most 20, of a size from a lot that is made and seasoned now.
func polished(lot, code, n, day int) []string {
	polish := "polish"
	for i := range n {
		polish += fmt.Sprint(" ", i+1)
	}
	return []string{fmt.Sprintf("block %d a 90 60 1", lot), fmt.Sprint("day ", day+7), fmt.Sprintf("cut %d %d %d", lot, code, n), polish}
}

// pairs are the lines of temples, numbered from first on, that make pairs in this order, with these differences of lengths.
func pairs(first int, differences ...int) []string {
	var lines []string
	for i, d := range differences {
		lines = append(lines, fmt.Sprintf("temple %d L %d 1", first+2*i, 100+20*i), fmt.Sprintf("temple %d R %d 1", first+2*i+1, 100+20*i+d))
	}
	return lines
}

// ready are the lines that make frames of a size from lot 1, on day 7, with temples of these differences of lengths.
func ready(code int, differences ...int) []string {
	return append(append(polished(1, code, len(differences), 0), pairs(1, differences...)...), "fit")
}

// frame is a frame of lot 1.
func frame(number, size, left, right, state, head, ref int) api.Frame {
	return api.Frame{Number: number, Size: size, Lot: 1, Left: left, Right: right, State: state, Head: head, Ref: ref}
}

// states are the states of all frames.
func states(w *works.Works) []int {
	var list []int
	for _, f := range w.Frames() {
		list = append(list, f.State)
	}
	return list
}

package works_test

import (
	"fmt"
	"math"
	"strings"
	"testing"

	"pantoscope/api"
	"pantoscope/ledger"
	"pantoscope/works"
)

// P10.3: the examples of the chapter.
func TestExamples(t *testing.T) {
	newBench(t, setup()).run(
		"block 1 a 16 6 2 = 16x6x2", "day 7 = ok", "cut 1 5 2 = 1 2", "polish 1 2 = ok",
		"temple 1 L 1400 1 = ok", "temple 2 R 1402 1 = ok", "fit = 1",
	)
}

// noDeeds are lines that are no deeds, whatever the works.
var noDeeds = []string{
	"", " ", "  ", "\n", "dance", "7", "recall 1", "lines", "# day 1",
	"day", "day ", " day 1", "day  1", "day 1 ", "day 1 1", "day 1 x", "Day 1", "DAY 1", "days 1", "day1", "da 1", "\"day\" 1",
	"day 01", "day 00", "day +1", "day -1", "day -0", "day 1.0", "day 1e1", "day 0x1", "day 1_0", "day x", "day \u0661", "day 1000000000", "day 0000000001", "day 99999999999999999999",
	"day\t1", "day 1\n", "\nday 1", "day 1\nday 2", "day 1\r", "day 1\x00", "day\u00a01",
	"block", "block ", "block 1", "block a 1 1 1", "block x a 1 1 1", "block  1 a 1 1 1", "block 01 a 1 1 1", "block 1000000000 a 1 1 1", " block 1 a 1 1 1",
	"block 1 a 1 1 1\n", "block 1 a\n1 1 1", "block 1 \n", "block 0 \n", "block\n1 a 1 1 1",
	"cut", "cut 1", "cut 1 5", "cut 1 5 ", "cut 1 5 2 3", "cut 1 5 2 ", "cut 1  5 2", "cut a 5 2", "cut 1 b 2", "cut 1 5 c", "cut 1 5 02", "cut 1 5 -2",
	"polish ", "polish 1 ", "polish  1", "polish 1  2", "polish 1 x", "polish x 1", "polish 1,2", "polish 01", "polish 1\n", "polish\n", "polishes",
	"temple", "temple 1 L 1400", "temple 1 L 1400 1 1", "temple 1 1400 1", "temple 1 l 1400 1", "temple 1 r 1400 1", "temple 1 LR 1400 1", "temple 1 1 1400 1", "temple 1  1400 1", "temple 1 X 1400 1",
	"temple x L 1400 1", "temple 1 L x 1", "temple 1 L 1400 x", "temple 1 L -1 1", "temple 1 L 1400 1\n", "temple L 1 1400 1", "temple 1 L\n 1400 1",
	"fit ", "fit 1", " fit", "fits", "fit\n", "Fit",
	"inspect", "inspect ", "inspect x", "inspect 1 2", "inspect -1", "inspect 2147483646", "inspect 1\n",
	"sell", "sell 1", "sell 1 2 3 4 5 6 7 1000", "sell 1 2 3 4 5 6 A7 1000", "sell 1 2 3 4 5 6 7 A7", "sell 1 2 3 4 5 6 7 8 A7 1000", "sell 1 2 3 4 5 6 7 A7 1000 1", "sell 1 2 3 4 5 6 7 A7 B7 1000",
	"sell 1 2 3 4 5 6 7  1000", "sell 1 2 3 4 5 6 7 A7  1000", "sell 1 2 3 4 5 6 7 A7 1000 ", "sell 1 2 3 4 5 6 7 A\n7 1000", "sell 1 2 3 4 5 6 7 \n 1000", "sell 1 2 3 4 5 6 7 A7 1000\n", "sell 1 2 3 4 5 6 -7 A7 1000", "sell x 2 3 4 5 6 7 A7 1000", "sell 1 x 3 4 5 6 7 A7 1000", "sell 1 2 3 x 5 6 7 A7 1000", "sell 1 2 3 4 5 6 7 A7 x", "sell 1 2 3 4 5 6 7 A7 010",
	"pay", "pay 1", "pay 1 2 3", "pay 1 ", "pay x 2", "pay 1 x", "pay 1 -2", "pay 1 2\n",
	"return", "return ", "return x", "return 1 2", "return 01", "return -1", "return 1\n",
}

// P10.3: a line that is no deed is ErrCommand.
func TestCommands(t *testing.T) {
	b := begun(t, setup(), append(ready(5, 0, 0), "sell 1 2 170 4 5 6 7 A7 1000", "block 2 a 16 6 1", "cut 1 5 3")...)
	fresh := newBench(t, setup())
	for _, line := range noDeeds {
		for _, on := range []*bench{b, fresh} {
			if got := on.step(line); got != "error 100" {
				t.Errorf("%q: %s", line, got)
			}
		}
	}
}

// P10.3: numbers have up to 9 digits.
func TestNumbers(t *testing.T) {
	newBench(t, setup()).run(
		"day 999999999 = error 2", "day 1000000000 = error 100", "block 999999999 a 1 1 1 = 1x1x1", "block 1000000000 a 1 1 1 = error 100", "block 0000000001 a 1 1 1 = error 100",
		"temple 999999999 L 1 1 = ok", "temple 1 R 999999999 1 = error 40", "temple 1 R 1 999999999 = error 40", "pay 999999999 999999999 = error 5", "return 999999999 = error 5", "cut 999999999 999999999 999999999 = error 31", "cut 999999998 5 1 = error 5", "polish 999999999 = error 5", "day 0 = ok",
	)
}

// P10.2: one Save for each deed, of the lines of all deeds, and none for an error.
func TestDoSaves(t *testing.T) {
	b := newBench(t, setup())
	lines := append(ready(5, 0, 3), "inspect 1", "sell 1 2 170 0 0 0 0 A7 1000", "pay 1 500", "return 1")
	for i, line := range lines {
		for _, bad := range []string{"day 100001", "dance", "return 9", line + " "} {
			if got := b.step(bad); !strings.HasPrefix(got, "error ") {
				t.Fatalf("%q: %s", bad, got)
			}
		}
		image, turn := imageOf(t, b.d)
		same(t, turn, i, "the turn in front of "+line)
		b.lines(line)
		after, turn := imageOf(t, b.d)
		same(t, after, image+line+"\n", "the image behind "+line)
		same(t, turn, i+1, "the turn behind "+line)
		same(t, b.w.Lines(), lines[:i+1], "Lines")
	}
}

// P10.2: a Save that fails: nothing changes, and the journal is dead then.
func TestDoOnADiskThatGoesDown(t *testing.T) {
	for _, line := range append(ready(5, 0, 3), "inspect 1", "sell 1 2 170 0 0 0 0 A7 1000", "pay 1 500", "return 1") {
		for keep := range 30 {
			b := begun(t, setup(), "day 0", "block 9 b 8 3 1")
			for _, l := range append(ready(5, 0, 3), "inspect 1", "sell 1 2 170 0 0 0 0 A7 1000", "pay 1 500", "return 1") {
				if l == line {
					break
				}
				b.lines(l)
			}
			before := view(b.w)
			b.d.Arm(1, keep)
			same(t, doing(b.w, "dance"), "error 100", "no deed")
			same(t, doing(b.w, "block 9 c 8 3 1"), "error 6", "a deed with an error")
			same(t, doing(b.w, line), "error 91", line)
			same(t, view(b.w), before, "the works")
			same(t, doing(b.w, line), "error 92", line)
			same(t, doing(b.w, "dance"), "error 92", "no deed")
			b.d.Restart()
			same(t, doing(b.w, line), "error 92", line)
			same(t, view(b.w), before, "the works")
		}
	}
}

// P10.2, R2: the errors of Do in their order.
func TestDoErrors(t *testing.T) {
	long := strings.Repeat("x", api.MaxImage)
	for _, w := range []*works.Works{nil, {}} {
		for _, line := range []string{"day 1", "day 100001", "dance", "", long} {
			if answer, err := w.Do(line); answer != "" || err != api.ErrDown {
				t.Errorf("%.20q: %q, %d", line, answer, err)
			}
		}
	}
	b := begun(t, setup(), "day 5")
	for line, want := range map[string]string{long: "error 4", long[1:]: "error 4", "day 4": "error 2", "dance": "error 100", "return 7": "error 5"} {
		same(t, b.step(line), want, line)
	}
	b.d.Restart()
	for _, line := range []string{long, "day 4", "dance", "day 6"} {
		if answer, err := b.w.Do(line); answer != "" || err != api.ErrDead {
			t.Errorf("%.20q: %q, %d", line, answer, err)
		}
	}
	same(t, b.w.Lines(), []string{"day 5"}, "Lines")
}

// P10.2: the disk is down, but not by a Save of the works: the errors of the deed come first.
func TestDoOnADiskThatIsDown(t *testing.T) {
	b := begun(t, setup(), "day 5")
	b.d.Arm(1, 0)
	expect(t, b.d.Write(0, nil), api.ErrDown, "Write")
	for line, want := range map[string]string{"day 4": "error 2", "dance": "error 100", strings.Repeat("x", api.MaxImage): "error 4"} {
		same(t, doing(b.w, line), want, line)
	}
	same(t, doing(b.w, "day 6"), "error 91", "day 6")
	same(t, doing(b.w, "day 4"), "error 92", "day 4")
	same(t, b.w.Day(), 5, "Day")
}

// P10.2: an image of MaxImage bytes is let, one byte more is not, whatever the line.
func TestGreatestImage(t *testing.T) {
	full := strings.Repeat("fit\n", api.MaxImage/4)
	for left, lines := range map[int]map[string]string{
		0: {"fit": "error 4", "": "error 4", "dance": "error 4"},
		4: {"fit": "0", "": "error 100", "day": "error 100", "day 0": "error 4", "dance": "error 4"},
		8: {"day 100": "ok", "fit": "0", "dance 1": "error 100", "day 1000": "error 4", "dance 12": "error 4"},
	} {
		for line, want := range lines {
			before := full[:len(full)-left]
			d := diskWith(t, before)
			w := must[*works.Works](t)(works.Open(setup(), d))
			same(t, doing(w, line), want, fmt.Sprintf("%q with %d bytes left", line, left))
			if !strings.HasPrefix(want, "error ") {
				before += line + "\n"
			}
			image, _ := imageOf(t, d)
			if image != before {
				t.Errorf("%q: %d bytes, not %d", line, len(image), len(before))
			}
		}
	}
}

// P10.2: behind the last turn, Save has ErrLimit; the errors of the deed come first.
func TestLastTurn(t *testing.T) {
	image := "day 5\n"
	d := ledger.NewDisk()
	bytes := append([]byte{0, 0, 0, byte(len(image))}, image...)
	expect(t, d.Write(1, append(bytes, 0x7f, 0xff, 0xff, 0xff)), api.OK, "Write")
	_, turn := imageOf(t, d)
	same(t, turn, math.MaxInt32, "the turn")
	w := must[*works.Works](t)(works.Open(setup(), d))
	for range 2 {
		same(t, doing(w, "day 4"), "error 2", "day 4")
		same(t, doing(w, "day 6"), "error 4", "day 6")
		same(t, w.Day(), 5, "Day")
	}
	same(t, w.Lines(), []string{"day 5"}, "Lines")
}

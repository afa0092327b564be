package works_test

import (
	"fmt"
	"strings"
	"testing"

	"pantoscope/api"
)

// P10.3: the day goes on, or stays.
func TestDay(t *testing.T) {
	b := newBench(t, setup())
	b.run("day 0 = ok", "day 5 = ok", "day 5 = ok", "day 4 = error 2", "day 0 = error 2")
	same(t, b.w.Day(), 5, "Day")
	b.run("day 100001 = error 2", "day 99999 = ok", "day 100000 = ok", "day 99999 = error 2", "day 100001 = error 2", "day 100000 = ok")
	same(t, b.w.Day(), 100000, "Day")
}

// P10.3: lots; ErrArg, ErrThere and the errors of slab.Parse, in this order.
func TestBlock(t *testing.T) {
	newBench(t, setup()).run(
		"block 0 a 1 1 1 = error 2", "block 0 nonsense = error 2", "block 1 a 16 6 2 = 16x6x2", "block 1 a 1 1 1 = error 6", "block 1 nonsense = error 6", "block 0 a 1 1 1 = error 2",
		"block 2 nonsense = error 3", "block 2 a 0 1 1 = error 20", "block 2 stack x (a 1 1 1, b 2 2 2) = error 21", "block 2 a 201 1 1 = error 4", "block 2 a 200 200 200 = error 4",
		"block 2 turn z (a 16 6 2) = 6x16x2", "block 3 stack x (a 2 1 1, b 1 1 1) = 3x1x1", "block 4 repeat y 3 (slice x 1 2 (i 5 4 3)) = 2x12x3", "block 999999999 a 200 40 1 = 200x40x1",
		"block 2 a 1 1 1 = error 6", "block 5 a 1 1 = error 3", "block 5 a 1 1 1 1 = error 3", "block 5 A 1 1 1 = error 3",
	)
}

// P10.3: the recipe is the rest of the line, whatever it is.
func TestRecipeIsTheRest(t *testing.T) {
	newBench(t, setup()).run(
		"block 1  = error 3", "block 1   = error 3", "block 1  a 1 1 1 = error 3", "block 1 a  1 1 1 = error 3", "block 1 a 1 1 1  = error 3", "block 1 a\t1 1 1 = error 3", "block 1 \x00 = error 3",
		"block 1 "+strings.Repeat("x", api.MaxRecipe)+" = error 3", "block 1 "+strings.Repeat("x", api.MaxRecipe+1)+" = error 4", "block 0  = error 2",
	)
}

// room is how many fronts can be cut from a new block.
func room(t *testing.T, recipe string) int {
	t.Helper()
	b := begun(t, setup(), "block 3 "+recipe, "day 7")
	for doing(b.w, "cut 3 5 20") != "error 102" {
	}
	for doing(b.w, "cut 3 5 1") != "error 102" {
	}
	return len(b.w.Frames())
}

// P10.3: as many fronts are cut as nest.Rows lays on the board of the lot, which is 300 for each cell of x and y.
func TestRoom(t *testing.T) {
	for recipe, want := range map[string]int{
		"a 1 1 1": 0, "a 7 3 1": 0, "a 8 2 1": 0, "a 3 8 1": 0, "a 8 3 1": 1, "a 8 3 200": 1, "a 15 5 1": 1, "a 16 5 1": 2, "a 15 6 1": 2, "a 16 6 2": 4, "a 6 16 1": 0,
		"a 6 16 2": 0, "turn z (a 6 16 2)": 4, "turn y (a 2 6 16)": 4, "a 24 9 1": 9, "a 200 3 1": 25, "a 8 200 1": 66, "a 80 60 1": 200, "a 88 60 1": 200, "a 90 88 1": 200, "a 79 60 1": 180, "a 64 63 1": 168, "a 72 66 1": 198,
	} {
		if got := room(t, recipe); got != want {
			t.Errorf("%s: %d, not %d", recipe, got, want)
		}
	}
}

// P10.3: frames have Numbers in the order in which they are cut, from any lot.
func TestCut(t *testing.T) {
	b := newBench(t, setup())
	b.run("block 1 a 16 6 2 = 16x6x2", "block 22 b 90 60 1 = 90x60x1", "day 7 = ok", "cut 1 5 2 = 1 2", "cut 22 7 20 = 3 22", "cut 1 3 1 = 23 23", "cut 1 5 2 = error 102", "cut 1 7 1 = 24 24", "cut 1 5 1 = error 102", "cut 22 5 1 = 25 25")
	frames := b.w.Frames()
	same(t, len(frames), 25, "Frames")
	for i, f := range frames {
		want := api.Frame{Number: i + 1, Size: 7, Lot: 22, State: api.FrameCut}
		switch i {
		case 0, 1:
			want.Lot, want.Size = 1, 5
		case 22:
			want.Lot, want.Size = 1, 3
		case 23:
			want.Lot = 1
		case 24:
			want.Size = 5
		}
		same(t, f, want, "a frame")
	}
}

// P10.3: the errors of cut, in the order in which they stand.
func TestCutErrors(t *testing.T) {
	b := newBench(t, setup())
	b.run(
		"day 3 = ok", "block 1 a 16 6 2 = 16x6x2", "block 2 a 90 60 1 = 90x60x1",
		"cut 9 9 99 = error 5", "cut 0 5 1 = error 5", "cut 1 9 99 = error 31", "cut 1 0 1 = error 31", "cut 1 5 99 = error 101", "cut 1 5 0 = error 101",
		"day 9 = ok", "cut 1 5 1 = error 101", "cut 1 5 99 = error 101", "day 10 = ok", "cut 1 5 99 = error 102", "cut 1 5 5 = error 102", "cut 1 5 999999999 = error 102", "cut 1 5 0 = error 2",
		"cut 2 5 21 = error 2", "cut 2 5 0 = error 2", "cut 2 5 150 = error 2", "cut 2 5 999 = error 102", "cut 2 9 0 = error 31", "cut 2 5 20 = 1 20", "cut 1 5 4 = 21 24", "cut 1 5 0 = error 2", "cut 1 5 1 = error 102",
	)
	b.lines("block 3 a 8 3 1", "day 16")
	b.run("cut 3 5 1 = error 101", "cut 2 5 1 = 25 25", "day 17 = ok", "cut 3 5 1 = 26 26")
}

// lots are the lines of lots with numbers and recipes, from each of which one frame is cut on day 7.
func lots(recipes ...string) []string {
	var blocks, cuts []string
	for _, r := range recipes {
		blocks = append(blocks, "block "+r)
		cuts = append(cuts, "cut "+strings.Fields(r)[0]+" 5 1")
	}
	return append(append(blocks, "day 7"), cuts...)
}

// P10.3: frames are polished in their order: the colour of a lot must not get lighter, nor its grain finer.
func TestPolish(t *testing.T) {
	recipes := []string{"11 a 8 3 1", "12 a 8 3 1", "23 b 8 3 1", "22 b 8 3 1", "34 i 8 3 1", "30 h 8 3 1", "41 a 8 3 1"}
	for line, want := range map[string]string{
		"polish 1": "ok", "polish 1 2": "ok", "polish 2 1": "error 61", "polish 1 7": "ok", "polish 7 1": "ok", "polish 2 3": "ok", "polish 3 2": "error 61", "polish 2 4": "ok", "polish 4 3": "ok", "polish 3 4": "error 61",
		"polish 1 2 3 5": "ok", "polish 1 2 3 6": "error 61", "polish 6 5": "ok", "polish 5 6": "error 61", "polish 1 6": "error 61", "polish 6 1": "error 61", "polish 6": "ok", "polish 7 1 2 4 3 5": "ok", "polish 7 1 2 3 4 5": "error 61", "polish 7 2 1 4 3 5": "error 61",
	} {
		b := begun(t, setup(), lots(recipes...)...)
		if got := b.step(line); got != want {
			t.Errorf("%s: %s, not %s", line, got, want)
		}
		for i, state := range states(b.w) {
			polished := want == "ok" && strings.Contains(line+" ", fmt.Sprintf(" %d ", i+1))
			if (state == api.FramePolished) != polished || state != api.FrameCut && state != api.FramePolished {
				t.Errorf("behind %s: frame %d is in state %d", line, i+1, state)
			}
		}
	}
}

// P10.3: the colour of a lot is the most frequent one of its block, of several the first letter.
func TestDark(t *testing.T) {
	for recipe, dark := range map[string]int{
		"a 8 3 1": 0, "b 8 3 1": 1, "e 8 3 1": 4, "i 8 3 1": 8, "stack x (a 4 3 1, b 4 3 1)": 0, "stack x (c 4 3 1, b 4 3 1)": 1, "stack x (b 4 3 1, c 4 3 1)": 1, "stack x (c 5 3 1, b 4 3 1)": 2, "stack x (b 4 3 1, c 5 3 1)": 2,
		"slice x 0 8 (stack x (a 5 3 1, g 9 3 1))": 0, "slice x 4 8 (stack x (a 5 3 1, g 9 3 1))": 6, "stack y (h 8 1 1, stack y (d 8 1 1, f 8 1 1))": 3, "stack x (i 8 3 1, repeat x 2 (h 4 3 1))": 7,
	} {
		for letter := range 9 {
			one := fmt.Sprintf("1 %c 8 3 1", 'a'+letter)
			want := map[bool]string{true: "ok", false: "error 61"}
			same(t, begun(t, setup(), lots(one, "11 "+recipe)...).step("polish 1 2"), want[dark >= letter], recipe+" behind "+one)
			same(t, begun(t, setup(), lots(one, "11 "+recipe)...).step("polish 2 1"), want[letter >= dark], one+" behind "+recipe)
		}
	}
}

// P10.3: the errors of polish, in the order in which they stand.
func TestPolishErrors(t *testing.T) {
	b := begun(t, setup(), "block 1 a 90 60 1", "block 2 b 90 60 1", "day 7", "cut 2 5 1", "cut 1 5 20", "cut 1 5 10")
	all := func(from, to int) string {
		line := "polish"
		for n := from; n <= to; n++ {
			line += fmt.Sprint(" ", n)
		}
		return line
	}
	b.run(
		"polish = error 2", all(2, 22)+" = error 2", all(40, 60)+" = error 2", "polish 2 2 = error 2", "polish 99 3 99 = error 2", "polish 1 2 1 = error 2", all(1, 300)+" = error 2",
		"polish 0 = error 5", "polish 32 = error 5", "polish 2 32 = error 5", "polish 1 2 0 = error 5", "polish 1 2 = error 61",
		"polish 3 = ok", "polish 3 = error 101", "polish 3 32 = error 5", "polish 3 3 = error 2", "polish 1 2 3 = error 101", "polish 2 3 = error 101", "polish 2 1 4 = error 61", "polish 2 1 = ok", "polish 1 = error 101",
		all(4, 23)+" = ok", all(24, 31)+" = ok", all(24, 31)+" = error 101",
	)
}

package nest_test

import (
	"math"
	"math/big"
	"math/rand/v2"
	"reflect"
	"slices"
	"testing"

	"pantoscope/api"
	"pantoscope/nest"
	"pantoscope/outline"
)

// must stops a test if a call that has to succeed does not.
func must[T any](t *testing.T) func(T, api.Errno) T {
	return func(v T, e api.Errno) T {
		t.Helper()
		if e != api.OK {
			t.Fatalf("error %d", e)
		}
		return v
	}
}

// results are the results of a call.
func results(r ...any) []any { return r }

// isError tells whether the results are zero values and this error.
func isError(results []any, err api.Errno) bool {
	end := len(results) - 1
	for _, r := range results[:end] {
		v := reflect.ValueOf(r)
		if b, ok := r.(api.Board); ok && b.W == 0 && b.H == 0 && b.Gap == 0 && len(b.Faults) == 0 {
			continue
		}
		if !v.IsZero() && !(v.Kind() == reflect.Slice && v.Len() == 0) {
			return false
		}
	}
	return results[end] == err
}

// xy makes a list of corners of pairs of numbers.
func xy(numbers ...int) []api.XY {
	var o []api.XY
	for i := 0; i+1 < len(numbers); i += 2 {
		o = append(o, api.XY{X: numbers[i], Y: numbers[i+1]})
	}
	return o
}

// box is a rectangle around (0, 0), 2x wide and 2y high.
func box(x, y int) []api.XY { return xy(-x, -y, x, -y, x, y, -x, y) }

// corner is a triangle with its right angle at (0, 0).
func corner(x, y int) []api.XY { return xy(0, 0, x, 0, 0, y) }

func moved(o []api.XY, dx, dy int) []api.XY {
	var out []api.XY
	for _, p := range o {
		out = append(out, api.XY{X: p.X + dx, Y: p.Y + dy})
	}
	return out
}

func turned(o []api.XY) []api.XY {
	var out []api.XY
	for _, p := range o {
		out = append(out, api.XY{X: -p.X, Y: -p.Y})
	}
	return out
}

func rolled(o []api.XY, n int) []api.XY { return slices.Concat(o[n:], o[:n]) }

// many is an outline with n corners, at most 80, with coordinates of up to 300.
func many(n int) []api.XY {
	var steps []api.XY
	for x := 12; x >= -12; x-- {
		for y := 0; y <= 12; y++ {
			if gcd(x, y) == 1 && (y > 0 || x > 0) {
				steps = append(steps, api.XY{X: x, Y: y})
			}
		}
	}
	slices.SortFunc(steps, func(a, b api.XY) int { return b.X*a.Y - b.Y*a.X })
	steps = steps[:40]
	o := []api.XY{{}}
	for _, sign := range []int{1, -1} {
		for _, s := range steps {
			last := o[len(o)-1]
			o = append(o, api.XY{X: last.X + sign*s.X, Y: last.Y + sign*s.Y})
		}
	}
	return o[:n]
}

func gcd(a, b int) int {
	for b != 0 {
		a, b = b, a%b
	}
	return max(a, -a)
}

// parts are parts with these outlines, none of which turns.
func parts(outlines ...[]api.XY) []api.Part {
	var list []api.Part
	for _, o := range outlines {
		list = append(list, api.Part{O: o})
	}
	return list
}

func turning(o []api.XY) api.Part { return api.Part{O: o, Turns: true} }

func board(w, h, gap int, faults ...api.Rect) api.Board {
	return api.Board{W: w, H: h, Gap: gap, Faults: faults}
}

func rect(x, y, w, h int) api.Rect { return api.Rect{X: x, Y: y, W: w, H: h} }

func at(part, x, y int) api.Place { return api.Place{Part: part, X: x, Y: y} }

func turnedAt(part, x, y int) api.Place { return api.Place{Part: part, X: x, Y: y, Turned: true} }

// example are the board and the part of the chapter's example 1.
func example() (api.Board, []api.Part) {
	return board(100, 60, 10), parts(box(20, 20))
}

func sameBoard(a, b api.Board) bool {
	return a.W == b.W && a.H == b.H && a.Gap == b.Gap && slices.Equal(a.Faults, b.Faults)
}

func sameParts(a, b []api.Part) bool {
	return slices.EqualFunc(a, b, func(p, q api.Part) bool { return p.Turns == q.Turns && slices.Equal(p.O, q.O) })
}

// randomOutline has coordinates of up to most, and begins at any corner.
func randomOutline(r *rand.Rand, most int) []api.XY {
	for {
		var places []api.XY
		for range 3 + r.IntN(8) {
			places = append(places, api.XY{X: r.IntN(2*most+1) - most, Y: r.IntN(2*most+1) - most})
		}
		if o, e := outline.Hull(places); e == api.OK {
			return rolled(o, r.IntN(len(o)))
		}
	}
}

// randomBoard has sides of up to most, and some faults on it that are less than a third of it each.
func randomBoard(r *rand.Rand, most int) api.Board {
	b := board(1+r.IntN(most), 1+r.IntN(most), r.IntN(1+most/10))
	for range r.IntN(4) {
		w, h := 1+r.IntN(1+b.W/3), 1+r.IntN(1+b.H/3)
		if w <= b.W && h <= b.H {
			b.Faults = append(b.Faults, rect(r.IntN(b.W-w+1), r.IntN(b.H-h+1), w, h))
		}
	}
	return b
}

// randomParts are at least one part, with outlines that are far smaller than a board.
func randomParts(r *rand.Rand, most int) []api.Part {
	var list []api.Part
	for range 1 + r.IntN(4) {
		list = append(list, api.Part{O: randomOutline(r, 1+r.IntN(max(1, most/6))), Turns: r.IntN(2) == 0})
	}
	return list
}

func randomPlace(r *rand.Rand, b api.Board, list []api.Part) api.Place {
	part := r.IntN(len(list))
	return api.Place{Part: part, X: r.IntN(b.W + 1), Y: r.IntN(b.H + 1), Turned: list[part].Turns && r.IntN(2) == 0}
}

// randomRight is a layout that is right, of the places that are so among some.
func randomRight(r *rand.Rand, b api.Board, list []api.Part, tries int) []api.Place {
	var l []api.Place
	for range tries {
		p := randomPlace(r, b, list)
		if _, err := checked(b, list, append(l, p)); err == api.OK {
			l = append(l, p)
		}
	}
	return l
}

// isFurther tells by the terms of the chapter whether the numbers of p in a direction are by at least gap greater than those of o.
func isFurther(o, p []api.XY, gap, u, v int) bool {
	least := math.MaxInt
	for _, a := range o {
		for _, b := range p {
			least = min(least, u*b.X+v*b.Y-u*a.X-v*a.Y)
		}
	}
	d := big.NewInt(int64(least))
	need := big.NewInt(int64(u*u + v*v))
	need.Mul(need, big.NewInt(int64(gap*gap)))
	return least >= 0 && d.Mul(d, d).Cmp(need) >= 0
}

// isApart tells by the terms of the chapter whether two outlines are at least gap apart.
func isApart(o, p []api.XY, gap int) bool {
	directions := xy(1, 0, 0, 1)
	for _, corners := range [][]api.XY{o, p} {
		for i, a := range corners {
			b := corners[(i+1)%len(corners)]
			directions = append(directions, api.XY{X: b.Y - a.Y, Y: a.X - b.X})
		}
	}
	return slices.ContainsFunc(directions, func(d api.XY) bool {
		return isFurther(o, p, gap, d.X, d.Y) || isFurther(p, o, gap, d.X, d.Y)
	})
}

// cornersAt are the corners of a part at a place, from the lowest one on before it is moved.
func cornersAt(list []api.Part, p api.Place) []api.XY {
	o := list[p.Part].O
	if p.Turned {
		o = turned(o)
	}
	first := 0
	for i, c := range o {
		if c.Y < o[first].Y || c.Y == o[first].Y && c.X < o[first].X {
			first = i
		}
	}
	return moved(rolled(o, first), p.X, p.Y)
}

func cornersOf(f api.Rect) []api.XY {
	return xy(f.X, f.Y, f.X+f.W, f.Y, f.X+f.W, f.Y+f.H, f.X, f.Y+f.H)
}

// checked is what Check has to return for a valid board with parts and at most 200 places.
func checked(b api.Board, list []api.Part, l []api.Place) (int, api.Errno) {
	for i, p := range l {
		if p.Part < 0 || p.Part >= len(list) || max(p.X, p.Y) > 120000 || min(p.X, p.Y) < -120000 || p.Turned && !list[p.Part].Turns {
			return i, api.ErrArg
		}
	}
	for i, p := range l {
		if slices.ContainsFunc(cornersAt(list, p), func(c api.XY) bool { return c.X < 0 || c.X > b.W || c.Y < 0 || c.Y > b.H }) {
			return i, api.ErrBeyond
		}
	}
	for i, p := range l {
		if slices.ContainsFunc(b.Faults, func(f api.Rect) bool { return !isApart(cornersAt(list, p), cornersOf(f), 0) }) {
			return i, api.ErrFault
		}
	}
	for i, p := range l {
		if slices.ContainsFunc(l[:i], func(q api.Place) bool { return !isApart(cornersAt(list, p), cornersAt(list, q), b.Gap) }) {
			return i, api.ErrClash
		}
	}
	return 0, api.OK
}

// isInside tells whether p is inside o, not on a side.
func isInside(o []api.XY, p api.XY) bool {
	for i, a := range o {
		b := o[(i+1)%len(o)]
		if (b.X-a.X)*(p.Y-b.Y)-(b.Y-a.Y)*(p.X-b.X) <= 0 {
			return false
		}
	}
	return true
}

// badOutlines are outlines that are not valid.
func badOutlines() [][]api.XY {
	m := api.MaxPlace
	return [][]api.XY{nil, {}, xy(0, 0, 1, 1), xy(0, 0, 0, 1, 1, 0), xy(0, 0, 1, 0, 2, 0), xy(0, 0, m+1, 0, 0, 1), many(65),
		xy(math.MinInt, math.MaxInt, 0, 0, math.MaxInt, 1)}
}

// badParts are lists of parts that are not valid.
func badParts() [][]api.Part {
	lists := [][]api.Part{make([]api.Part, 1), make([]api.Part, 1000), parts(slices.Repeat([][]api.XY{corner(1, 1)}, 61)...)}
	for _, o := range badOutlines() {
		lists = append(lists, parts(o), parts(corner(1, 1), o), parts(o, corner(1, 1)))
	}
	return lists
}

// badBoards are boards that are not valid.
func badBoards() []api.Board {
	var list []api.Board
	for _, n := range []int{0, -1, 60001, math.MinInt, math.MaxInt} {
		list = append(list, board(n, 10, 0), board(10, n, 0))
	}
	for _, n := range []int{-1, 2001, math.MinInt, math.MaxInt} {
		list = append(list, board(10, 10, n))
	}
	bad := []api.Rect{{}, rect(-1, 0, 2, 2), rect(0, -1, 2, 2), rect(0, 0, 0, 2), rect(0, 0, 2, 0), rect(9, 0, 2, 1), rect(0, 29, 1, 2),
		rect(10, 0, 1, 1), rect(0, 30, 1, 1), rect(0, 0, 11, 1), rect(0, 0, 1, 31), rect(0, 0, -1, 1), rect(0, 0, 1, -1), rect(10, 0, 0, 1),
		rect(5, 0, -5, 1), rect(11, 0, -1, 1), rect(0, 31, 1, -1),
		rect(1, 1, math.MaxInt, 1), rect(1, 1, 1, math.MaxInt), rect(math.MaxInt, 1, 1, 1), rect(1, math.MaxInt, 1, 1),
		rect(math.MinInt, 1, math.MaxInt, 1), rect(1, math.MinInt, 1, math.MaxInt), rect(1, 1, math.MinInt, 1), rect(1, 1, 1, math.MinInt)}
	for _, f := range bad {
		list = append(list, board(10, 30, 1, f), board(10, 30, 1, rect(1, 1, 1, 1), f), board(10, 30, 1, f, rect(1, 1, 1, 1)))
	}
	return append(list, api.Board{}, board(10, 10, 0, slices.Repeat([]api.Rect{rect(1, 1, 1, 1)}, 11)...))
}

func placesAre(t *testing.T, name string, got []api.Place, err api.Errno, want []api.Place) {
	t.Helper()
	if err != api.OK || !slices.Equal(got, want) {
		t.Errorf("%s: %v, %d, not %v", name, got, err, want)
	}
}

// dropped is what Drop has to return for a place that is from 0 to 500 high.
func dropped(b api.Board, list []api.Part, l []api.Place, p api.Place) (api.Place, bool) {
	lowest := -1
	for y := range p.Y + 1 {
		one := api.Place{Part: p.Part, X: p.X, Y: y, Turned: p.Turned}
		if _, err := nest.Check(b, list, append(slices.Clone(l), one)); err != api.OK {
			lowest = -1
		} else if lowest < 0 {
			lowest = y
		}
	}
	if lowest < 0 {
		return api.Place{}, false
	}
	p.Y = lowest
	return p, true
}

// A wrong is a layout that is not right, and its error.
type wrong struct {
	l   []api.Place
	err api.Errno
}

// wrongLayouts are a board and parts with a layout for each error that Check may have.
func wrongLayouts() (api.Board, []api.Part, []wrong) {
	return board(2000, 2000, 10, rect(100, 0, 50, 50)), parts(box(20, 20)), []wrong{
		{slices.Repeat([]api.Place{at(0, 20, 20)}, 201), api.ErrLimit},
		{[]api.Place{at(0, 20, 20), turnedAt(0, 70, 20)}, api.ErrArg},
		{[]api.Place{at(0, 20, 20), at(0, 19, 20)}, api.ErrBeyond},
		{[]api.Place{at(0, 20, 20), at(0, 110, 20)}, api.ErrFault},
		{[]api.Place{at(0, 20, 20), at(0, 60, 20)}, api.ErrClash},
	}
}

package works

import (
	"strconv"
	"strings"

	"pantoscope/api"
	"pantoscope/barrel"
	"pantoscope/nest"
	"pantoscope/slab"
)

const (
	cellSide  = 300 // of a board, for each cell of its block
	season    = 7   // days
	maxAtOnce = 20  // fronts of a cut, and frames in a barrel
	grains    = 10
)

// front is the part that is cut from a board.
func front() api.Part {
	return api.Part{O: []api.XY{
		{X: 300, Y: 0}, {X: 2100, Y: 0}, {X: 2400, Y: 300}, {X: 2400, Y: 600},
		{X: 2100, Y: 900}, {X: 300, Y: 900}, {X: 0, Y: 600}, {X: 0, Y: 300},
	}}
}

// newLot is a lot that is made.
type newLot struct {
	number int
	extent [3]int
	lot    lot
}

func (s *shop) planBlock(a asked) (change, api.Errno) {
	n := a.numbers[0]
	if n == 0 {
		return nil, api.ErrArg
	}
	if s.isLot(n) {
		return nil, api.ErrThere
	}
	b, err := slab.Parse(a.text)
	if err != api.OK {
		return nil, err
	}
	return s.lotOf(n, b)
}

// lotOf is a lot with a number, of a block.
func (s *shop) lotOf(n int, b api.Block) (change, api.Errno) {
	extent, err := slab.Extent(b)
	if err != api.OK {
		return nil, err
	}
	volumes, err := slab.Volumes(b)
	if err != api.OK {
		return nil, err
	}
	board := api.Board{W: extent[0] * cellSide, H: extent[1] * cellSide}
	fronts, err := nest.Rows(board, []api.Part{front()}, 0)
	if err != api.OK {
		return nil, err
	}
	return newLot{number: n, extent: extent, lot: lot{day: s.day, dark: greatest(volumes), room: len(fronts)}}, api.OK
}

// greatest is the index of the greatest number, of several the first.
func greatest(list [9]int) int {
	best := 0
	for i, n := range list {
		if n > list[best] {
			best = i
		}
	}
	return best
}

func (c newLot) apply(s *shop) string {
	s.lots[c.number] = c.lot
	var words []string
	for _, n := range c.extent {
		words = append(words, strconv.Itoa(n))
	}
	return strings.Join(words, "x")
}

// cutting are fronts that are cut from a lot.
type cutting struct {
	lot, size, count int
}

func (s *shop) planCut(a asked) (change, api.Errno) {
	c := cutting{lot: a.numbers[0], size: a.numbers[1], count: a.numbers[2]}
	l := s.lots[c.lot]
	switch {
	case !s.isLot(c.lot):
		return nil, api.ErrNone
	case !s.isSize(c.size):
		return nil, api.ErrSize
	case s.day-l.day < season:
		return nil, api.ErrState
	case l.cut+c.count > l.room:
		return nil, api.ErrStock
	case !within(c.count, 1, maxAtOnce):
		return nil, api.ErrArg
	}
	return c, api.OK
}

func (c cutting) apply(s *shop) string {
	l := s.lots[c.lot]
	l.cut += c.count
	s.lots[c.lot] = l
	first := len(s.frames) + 1
	for i := range c.count {
		s.frames = append(s.frames, api.Frame{Number: first + i, Size: c.size, Lot: c.lot, State: api.FrameCut})
	}
	return strconv.Itoa(first) + " " + strconv.Itoa(len(s.frames))
}

// polishing are the Numbers of frames that are polished in one barrel.
type polishing []int

func (s *shop) planPolish(a asked) (change, api.Errno) {
	if !within(len(a.numbers), 1, maxAtOnce) || !distinct(a.numbers) {
		return nil, api.ErrArg
	}
	for _, n := range a.numbers {
		if !s.isFrame(n) {
			return nil, api.ErrNone
		}
	}
	for _, n := range a.numbers {
		if s.frame(n).State != api.FrameCut {
			return nil, api.ErrState
		}
	}
	for i, n := range a.numbers[1:] {
		if may, err := barrel.May(s.batch(a.numbers[i]), s.batch(n)); err != api.OK || !may {
			return nil, api.ErrDirty
		}
	}
	return polishing(a.numbers), api.OK
}

func distinct(list []int) bool {
	seen := map[int]bool{}
	for _, n := range list {
		seen[n] = true
	}
	return len(seen) == len(list)
}

// batch is the batch of a frame.
func (s *shop) batch(n int) api.Batch {
	number := s.frame(n).Lot
	return api.Batch{Number: n, Dark: s.lots[number].dark, Grain: number % grains}
}

func (c polishing) apply(s *shop) string {
	for _, n := range c {
		s.frame(n).State = api.FramePolished
	}
	return done
}

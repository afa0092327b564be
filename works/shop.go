package works

import (
	"slices"

	"pantoscope/api"
)

const done = "ok"

// shop is what the deeds so far have made of a works.
type shop struct {
	setup   api.Setup
	day     int
	lots    map[int]lot
	frames  []api.Frame        // the one with the Number n is at n - 1
	temples map[int]api.Temple // all that ever came to the stock
	stock   []int              // the Numbers of those that are there, in ascending order
	book    []api.Entry        // Sorted
	found   []int              // how many bad frames, for each lot that was inspected
}

// lot is a block and what is cut from it.
type lot struct {
	day  int // on which it was made
	dark int // the number of its most frequent colour
	room int // how many fronts its board gives
	cut  int // how many fronts are cut from it
}

// newShop keeps a copy of a setup.
func newShop(s api.Setup) shop {
	s.Sizes = slices.Clone(s.Sizes)
	s.Prices = slices.Clone(s.Prices)
	for i, p := range s.Prices {
		s.Prices[i].Steps = slices.Clone(p.Steps)
	}
	return shop{setup: s, lots: map[int]lot{}, temples: map[int]api.Temple{}}
}

func within(n, least, most int) bool {
	return least <= n && n <= most
}

func (s *shop) isLot(n int) bool {
	_, there := s.lots[n]
	return there
}

func (s *shop) isSize(code int) bool {
	return slices.ContainsFunc(s.setup.Sizes, func(z api.Size) bool { return z.Code == code })
}

func (s *shop) isFrame(n int) bool {
	return within(n, 1, len(s.frames))
}

// frame is the frame with a Number that there is.
func (s *shop) frame(n int) *api.Frame {
	return &s.frames[n-1]
}

// framesIn are the frames in a state, in ascending order of Numbers.
func (s *shop) framesIn(state int) []api.Frame {
	var list []api.Frame
	for _, f := range s.frames {
		if f.State == state {
			list = append(list, f)
		}
	}
	return list
}

// inStock are the temples in stock, in ascending order of Numbers.
func (s *shop) inStock() []api.Temple {
	var list []api.Temple
	for _, n := range s.stock {
		list = append(list, s.temples[n])
	}
	return list
}

// invoice is the invoice of an order, if there is one.
func (s *shop) invoice(ref int) (api.Entry, bool) {
	for _, e := range s.book {
		if [2]int{e.Kind, e.Ref} == [2]int{api.EntryInvoice, ref} {
			return e, true
		}
	}
	return api.Entry{}, false
}

// newDay is a day that begins.
type newDay struct {
	day int
}

func (s *shop) planDay(a asked) (change, api.Errno) {
	day := a.numbers[0]
	if !within(day, s.day, api.MaxDay) {
		return nil, api.ErrArg
	}
	return newDay{day: day}, api.OK
}

func (c newDay) apply(s *shop) string {
	s.day = c.day
	return done
}

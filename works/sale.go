package works

import (
	"slices"
	"strconv"

	"pantoscope/api"
	"pantoscope/last"
	"pantoscope/ledger"
	"pantoscope/order"
)

const guarantee = 730 // days

// sale is a frame that is sold, with the book behind it.
type sale struct {
	frame, head, ref int
	book             []api.Entry
}

func (s *shop) planSell(a asked) (change, api.Errno) {
	ref, cents := a.numbers[0], a.numbers[7]
	h := api.Head{Number: a.numbers[1]}
	copy(h.M[:], a.numbers[2:7])
	if !last.ValidHeads([]api.Head{h}) {
		return nil, api.ErrHead
	}
	if _, there := s.invoice(ref); there {
		return nil, api.ErrThere
	}
	frame, err := s.chosen(h)
	if err != api.OK {
		return nil, err
	}
	if price, err := order.Price(s.setup.Prices, a.text, s.day, 1); err != api.OK || price != cents {
		return nil, api.ErrPrice
	}
	book, err := ledger.Add(s.book, api.Entry{Kind: api.EntryInvoice, Ref: ref, Day: s.day, Cents: cents})
	if err != api.OK {
		return nil, err
	}
	return sale{frame: frame, head: h.Number, ref: ref, book: book}, api.OK
}

// chosen is the Number of the ready frame that a head gets.
func (s *shop) chosen(h api.Head) (int, api.Errno) {
	ready := s.framesIn(api.FrameReady)
	var sizes []api.Size
	for _, z := range s.setup.Sizes {
		if firstOf(ready, z.Code) > 0 {
			sizes = append(sizes, z)
		}
	}
	i, err := last.Choose(sizes, h)
	if err != api.OK {
		return 0, err
	}
	return firstOf(ready, sizes[i].Code), api.OK
}

// firstOf is the Number of the first frame of a size, or 0.
func firstOf(frames []api.Frame, code int) int {
	i := slices.IndexFunc(frames, func(f api.Frame) bool { return f.Size == code })
	if i < 0 {
		return 0
	}
	return frames[i].Number
}

func (c sale) apply(s *shop) string {
	f := s.frame(c.frame)
	f.Head, f.Ref, f.State = c.head, c.ref, api.FrameSold
	s.book = c.book
	return strconv.Itoa(c.frame)
}

// payment is a payment, with the book behind it and its balance.
type payment struct {
	book    []api.Entry
	balance int
}

func (s *shop) planPay(a asked) (change, api.Errno) {
	ref, cents := a.numbers[0], a.numbers[1]
	if _, there := s.invoice(ref); !there {
		return nil, api.ErrNone
	}
	book, err := ledger.Add(s.book, api.Entry{Kind: api.EntryPay, Ref: ref, Day: s.day, Cents: cents})
	if err != api.OK {
		return nil, err
	}
	balance, err := ledger.Balance(book, s.day)
	return payment{book: book, balance: balance}, err
}

func (c payment) apply(s *shop) string {
	s.book = c.book
	return strconv.Itoa(c.balance)
}

// comingBack is a frame that comes back, with the book behind it.
type comingBack struct {
	frame int
	book  []api.Entry
}

func (s *shop) planReturn(a asked) (change, api.Errno) {
	n := a.numbers[0]
	if !s.isFrame(n) {
		return nil, api.ErrNone
	}
	f := s.frame(n)
	if f.State != api.FrameSold {
		return nil, api.ErrState
	}
	invoice, _ := s.invoice(f.Ref) // a frame that is sold has one
	if s.day-invoice.Day > guarantee {
		return nil, api.ErrArg
	}
	book, err := ledger.Add(s.book, api.Entry{Kind: api.EntryReturn, Ref: f.Ref, Day: s.day})
	if err != api.OK {
		return nil, err
	}
	book, err = ledger.Add(book, api.Entry{Kind: api.EntryCredit, Ref: f.Ref, Day: s.day, Cents: invoice.Cents})
	if err != api.OK {
		return nil, err
	}
	return comingBack{frame: n, book: book}, api.OK
}

func (c comingBack) apply(s *shop) string {
	s.frame(c.frame).State = api.FrameBack
	s.book = c.book
	return done
}

package works_test

import (
	"fmt"
	"testing"

	"pantoscope/api"
)

// shelf are the lines of ready frames of these sizes, in this order, from lot 1 on day 7.
func shelf(codes ...int) []string {
	lines := []string{"block 1 a 90 60 1", "day 7"}
	polish := "polish"
	for i, code := range codes {
		lines = append(lines, fmt.Sprintf("cut 1 %d 1", code))
		polish += fmt.Sprint(" ", i+1)
	}
	lines = append(append(lines, polish), pairs(1, make([]int, len(codes))...)...)
	return append(lines, "fit")
}

// P10.3: a head gets a frame of the size that is bent least, of several the one with the least Code, and of it the least Number.
func TestSell(t *testing.T) {
	for bridge, want := range map[int]string{
		140: "2", 139: "error 32", 160: "2", 179: "2", 180: "4", 200: "4", 201: "4", 220: "4", 221: "1", 240: "1", 260: "1", 261: "error 32",
	} {
		b := begun(t, setup(), shelf(7, 5, 5, 3, 7, 3)...)
		same(t, b.step(fmt.Sprintf("sell 8 4 %d 0 0 0 0 A7 1000", bridge)), want, fmt.Sprint("bridge ", bridge))
	}
	for bridge, want := range map[int]string{160: "2", 180: "2", 199: "2", 200: "2", 201: "1", 220: "1", 240: "1"} {
		b := begun(t, setup(), shelf(7, 5)...)
		same(t, b.step(fmt.Sprintf("sell 8 4 %d 0 0 0 0 A7 1000", bridge)), want, fmt.Sprint("bridge ", bridge))
	}
}

// P10.3: one frame after the other is sold; then the size is no more among those that are chosen.
func TestSellAll(t *testing.T) {
	b := begun(t, setup(), shelf(7, 5, 5, 3)...)
	b.run("sell 9 4 190 0 0 0 0 A7 1000 = 4", "sell 8 4 190 0 0 0 0 A7 1000 = 2", "sell 7 3 190 0 0 0 0 A7 1000 = 3", "sell 6 2 190 0 0 0 0 A7 1000 = 1", "sell 5 1 190 0 0 0 0 A7 1000 = error 32")
	same(t, b.w.Frames(), []api.Frame{
		frame(1, 7, 1, 2, api.FrameSold, 2, 6), frame(2, 5, 3, 4, api.FrameSold, 4, 8), frame(3, 5, 5, 6, api.FrameSold, 3, 7), frame(4, 3, 7, 8, api.FrameSold, 4, 9),
	}, "Frames")
	var book []api.Entry
	for ref := 6; ref < 10; ref++ {
		book = append(book, api.Entry{Kind: api.EntryInvoice, Ref: ref, Day: 7, Cents: 1000})
	}
	same(t, b.w.Book(), book, "Book")
}

// P10.3: each measure of a head counts, in its place.
func TestMeasures(t *testing.T) {
	for i := range 5 {
		narrow := changed(func(s *api.Setup) {
			s.Sizes = []api.Size{sized(5, 160, 200)}
			s.Sizes[0].From[i], s.Sizes[0].To[i] = 1000, 1010
		})
		m := [5]int{170, 500, 500, 500, 500}
		for n, want := range map[int]string{979: "error 32", 980: "1", 1005: "1", 1030: "1", 1031: "error 32"} {
			m[i] = n
			b := begun(t, narrow, shelf(5)...)
			same(t, b.step(fmt.Sprintf("sell 8 4 %d %d %d %d %d A7 1000", m[0], m[1], m[2], m[3], m[4])), want, fmt.Sprint(m))
		}
	}
}

// P10.3: the price is that of one piece on the day.
func TestPrices(t *testing.T) {
	b := begun(t, setup(), shelf(5, 5, 5)...)
	b.run("sell 1 4 170 0 0 0 0 A7 999 = error 82", "sell 1 4 170 0 0 0 0 A7 900 = error 82", "sell 1 4 170 0 0 0 0 A7 1200 = error 82", "sell 1 4 170 0 0 0 0 A7 1000 = 1", "day 9 = ok", "sell 2 4 170 0 0 0 0 A7 1000 = 2")
	b.run("day 10 = ok", "sell 3 4 170 0 0 0 0 A7 1000 = error 82", "sell 3 4 170 0 0 0 0 A7 1200 = 3")
	same(t, b.w.Book(), []api.Entry{{Kind: api.EntryInvoice, Ref: 1, Day: 7, Cents: 1000}, {Kind: api.EntryInvoice, Ref: 2, Day: 9, Cents: 1000}, {Kind: api.EntryInvoice, Ref: 3, Day: 10, Cents: 1200}}, "Book")
}

// P10.3: a model may be any word; without a price it is ErrPrice.
func TestModels(t *testing.T) {
	b := begun(t, setup(), shelf(5)...)
	for _, model := range []string{"A8", "a7", "A", "A77", "7", "-", "\t", "A7\t", "\u00e9", "\xff", "A7\r", "(A7)", "ABCDEFGHIJKLMNOPQRSTUVWXYZ"} {
		for _, cents := range []int{0, 1000} {
			same(t, b.step(fmt.Sprintf("sell 1 4 170 0 0 0 0 %s %d", model, cents)), "error 82", model)
		}
	}
	b.run("sell 1 4 170 0 0 0 0 FREE 1 = error 82", "sell 1 4 170 0 0 0 0 FREE 0 = error 90")
	late := changed(func(s *api.Setup) { s.Prices = s.Prices[:1] })
	begun(t, late, shelf(5)...).run("sell 1 4 170 0 0 0 0 A7 1200 = error 82", "sell 1 4 170 0 0 0 0 A7 0 = error 82", "day 10 = ok", "sell 1 4 170 0 0 0 0 A7 1200 = 1")
}

// P10.3: the errors of sell, in the order in which they stand.
func TestSellErrors(t *testing.T) {
	b := begun(t, setup(), shelf(5, 5)...)
	b.run(
		"sell 8 4 170 0 0 0 0 A7 1000 = 1",
		"sell 8 0 9 0 0 0 0 B7 1 = error 30", "sell 8 4 3001 0 0 0 0 B7 1 = error 30", "sell 8 4 170 0 0 0 3001 B7 1 = error 30", "sell 8 0 170 0 0 0 0 A7 1000 = error 30", "sell 9 0 170 0 0 0 0 A7 1000 = error 30",
		"sell 8 4 9 0 0 0 0 B7 1 = error 6", "sell 8 5 170 0 0 0 0 A7 1000 = error 6",
		"sell 0 4 9 0 0 0 0 B7 1 = error 32", "sell 9 4 3000 0 0 0 0 A7 1000 = error 32",
		"sell 0 4 170 0 0 0 0 B7 1 = error 82", "sell 0 4 170 0 0 0 0 A7 1001 = error 82",
		"sell 0 4 170 0 0 0 0 A7 1000 = error 90", "sell 0 4 170 0 0 0 0 FREE 0 = error 90", "sell 9 4 170 0 0 0 0 FREE 0 = error 90",
		"sell 9 999999999 170 3000 3000 3000 3000 A7 1000 = 2", "sell 10 4 170 0 0 0 0 A7 1000 = error 32", "sell 0 0 170 0 0 0 0 A7 1000 = error 30", "sell 9 4 170 0 0 0 0 A7 1000 = error 6", "sell 0 4 170 0 0 0 0 B7 1 = error 32",
	)
}

// P10.3: an order stays in the book behind a return, too.
func TestRefsAreKept(t *testing.T) {
	begun(t, setup(), shelf(5, 5)...).run("sell 8 4 170 0 0 0 0 A7 1000 = 1", "return 1 = ok", "sell 8 4 170 0 0 0 0 A7 1000 = error 6", "sell 999999999 4 170 0 0 0 0 A7 1000 = 2")
}

// P10.3: a payment is added, and the balance is that of the day.
func TestPay(t *testing.T) {
	b := begun(t, setup(), shelf(5, 5, 5)...)
	b.run(
		"pay 8 400 = error 5", "pay 0 0 = error 5", "sell 8 4 170 0 0 0 0 A7 1000 = 1", "pay 8 0 = error 90", "pay 8 400 = 600", "pay 8 600 = error 6", "pay 8 0 = error 90", "pay 9 0 = error 5",
		"day 20 = ok", "sell 9 4 170 0 0 0 0 A7 1200 = 2", "pay 9 999999999 = -999998199", "sell 7 4 170 0 0 0 0 A7 1200 = 3", "return 3 = ok", "pay 7 1 = -999998200", "pay 7 1 = error 6",
	)
	same(t, b.w.Book(), []api.Entry{
		{Kind: api.EntryInvoice, Ref: 7, Day: 20, Cents: 1200}, {Kind: api.EntryInvoice, Ref: 8, Day: 7, Cents: 1000}, {Kind: api.EntryInvoice, Ref: 9, Day: 20, Cents: 1200},
		{Kind: api.EntryPay, Ref: 7, Day: 20, Cents: 1}, {Kind: api.EntryPay, Ref: 8, Day: 7, Cents: 400}, {Kind: api.EntryPay, Ref: 9, Day: 20, Cents: 999999999},
		{Kind: api.EntryCredit, Ref: 7, Day: 20, Cents: 1200}, {Kind: api.EntryReturn, Ref: 7, Day: 20},
	}, "Book")
}

// P10.3: a frame that comes back keeps its temples, its head and its order; a return and a credit are in the book.
func TestReturn(t *testing.T) {
	b := begun(t, setup(), shelf(5, 5)...)
	b.run("return 1 = error 101", "sell 8 4 170 0 0 0 0 A7 1000 = 1", "day 100 = ok", "return 2 = error 101", "return 3 = error 5", "return 0 = error 5", "return 1 = ok", "return 1 = error 101")
	same(t, b.w.Frames(), []api.Frame{frame(1, 5, 1, 2, api.FrameBack, 4, 8), frame(2, 5, 3, 4, api.FrameReady, 0, 0)}, "Frames")
	same(t, b.w.Book(), []api.Entry{{Kind: api.EntryInvoice, Ref: 8, Day: 7, Cents: 1000}, {Kind: api.EntryCredit, Ref: 8, Day: 100, Cents: 1000}, {Kind: api.EntryReturn, Ref: 8, Day: 100}}, "Book")
	same(t, b.w.Stock(), []api.Temple{}, "Stock")
	b.run("pay 8 400 = -400")
}

// P10.3: a frame that is sold comes back up to 730 days behind its invoice.
func TestGuarantee(t *testing.T) {
	b := begun(t, setup(), append(shelf(5, 5, 5), "cut 1 5 1", "sell 8 4 170 0 0 0 0 A7 1000", "day 8", "sell 9 4 170 0 0 0 0 A7 1000")...)
	b.run("day 737 = ok", "return 1 = ok", "day 738 = ok", "return 2 = ok", "sell 10 4 170 0 0 0 0 A7 1200 = 3", "day 1469 = ok", "return 3 = error 2", "return 4 = error 101", "return 5 = error 5", "day 100000 = ok", "return 3 = error 2")
	same(t, states(b.w), []int{api.FrameBack, api.FrameBack, api.FrameSold, api.FrameCut}, "states")
}

// full are the lines of a works with n entries in its book: orders from 1 on, each sold and then paid.
func full(n int) []string {
	lines := []string{"block 1 a 90 88 1", "day 7"}
	made := 0
	for entries, ref := 0, 1; entries < n; ref++ {
		if made < ref {
			polish := "polish"
			for i := range 20 {
				polish += fmt.Sprint(" ", made+i+1)
			}
			lines = append(append(append(lines, "cut 1 5 20", polish), pairs(2*made+1, make([]int, 20)...)...), "fit")
			made += 20
		}
		lines = append(lines, fmt.Sprintf("sell %d 4 170 0 0 0 0 A7 1000", ref))
		entries++
		if entries < n {
			lines = append(lines, fmt.Sprintf("pay %d 1000", ref))
			entries++
		}
	}
	return lines
}

// P10.3: the limits of the book: of a return and its credit both are added, or none.
func TestFullBook(t *testing.T) {
	b := begun(t, setup(), full(199)...)
	same(t, len(b.w.Book()), 199, "entries")
	b.run("pay 100 0 = error 90", "return 100 = error 4", "return 1 = error 4", "pay 100 900 = 100")
	same(t, len(b.w.Book()), 200, "entries")
	b.run("return 100 = error 4", "sell 1000 4 170 0 0 0 0 A7 1000 = error 32", "cut 1 5 1 = 101 101", "polish 101 = ok", "temple 999 L 5 5 = ok", "temple 998 R 5 5 = ok", "fit = 1")
	b.run("sell 1000 4 170 0 0 0 0 A7 1000 = error 4", "sell 0 4 170 0 0 0 0 A7 1000 = error 90", "sell 1000 4 170 0 0 0 0 B7 1000 = error 82", "pay 100 1 = error 6", "pay 101 1 = error 5")
	b = begun(t, setup(), full(198)...)
	b.run("return 99 = ok", "return 98 = error 4", "sell 1000 4 170 0 0 0 0 A7 1000 = error 4")
	same(t, len(b.w.Book()), 200, "entries")
}

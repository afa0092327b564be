package works_test

import (
	"cmp"
	"fmt"
	"regexp"
	"slices"
	"strconv"
	"strings"
	"testing"

	"pantoscope/api"
	"pantoscope/last"
	"pantoscope/sample"
	"pantoscope/slab"
	"pantoscope/temple"
)

// model is a works made by the terms, without a disk.
type model struct {
	t      *testing.T
	setup  api.Setup
	lines  []string
	day    int
	lots   map[int]modelLot
	frames []api.Frame
	known  map[int]api.Temple
	stock  []api.Temple
	book   []api.Entry
	found  []int
}

type modelLot struct {
	day    int
	recipe api.Block
}

const digits = `(0|[1-9][0-9]{0,8})`

var forms = map[string]*regexp.Regexp{
	"day":     regexp.MustCompile(`^day ` + digits + `$`),
	"block":   regexp.MustCompile(`^block ` + digits + ` ([^\n]*)$`),
	"cut":     regexp.MustCompile(`^cut ` + digits + ` ` + digits + ` ` + digits + `$`),
	"polish":  regexp.MustCompile(`^polish( ` + digits + `)*$`),
	"temple":  regexp.MustCompile(`^temple ` + digits + ` ([LR]) ` + digits + ` ` + digits + `$`),
	"fit":     regexp.MustCompile(`^fit$`),
	"inspect": regexp.MustCompile(`^inspect ` + digits + `$`),
	"sell":    regexp.MustCompile(`^sell ` + strings.Repeat(digits+` `, 7) + `([^ \n]+) ` + digits + `$`),
	"pay":     regexp.MustCompile(`^pay ` + digits + ` ` + digits + `$`),
	"return":  regexp.MustCompile(`^return ` + digits + `$`),
}

func newModel(t *testing.T, s api.Setup) *model {
	return &model{t: t, setup: s, lots: map[int]modelLot{}, known: map[int]api.Temple{}}
}

// do does a line, if it has no error.
func (m *model) do(line string) (string, api.Errno) {
	name, _, _ := strings.Cut(line, " ")
	form := forms[name]
	if form == nil || !form.MatchString(line) {
		return "", api.ErrCommand
	}
	words := form.FindStringSubmatch(line)[1:]
	if name == "polish" {
		words = strings.Fields(line)[1:]
	}
	var n []int
	for _, w := range words {
		i, _ := strconv.Atoi(w)
		n = append(n, i)
	}
	answer, err := m.deed(name, words, n)
	if err == api.OK {
		m.lines = append(m.lines, line)
	}
	return answer, err
}

func (m *model) deed(name string, words []string, n []int) (string, api.Errno) {
	switch name {
	case "day":
		if n[0] < m.day || n[0] > api.MaxDay {
			return "", api.ErrArg
		}
		m.day = n[0]
	case "block":
		return m.block(n[0], words[1])
	case "cut":
		return m.cut(n[0], n[1], n[2])
	case "polish":
		return m.polish(n)
	case "temple":
		return m.temple(api.Temple{Number: n[0], Side: map[string]int{"L": api.SideLeft, "R": api.SideRight}[words[1]], Length: n[2], Colour: n[3]})
	case "fit":
		return m.fit()
	case "inspect":
		return m.inspect(n[0])
	case "sell":
		return m.sell(n[0], api.Head{Number: n[1], M: [5]int(n[2:7])}, words[7], n[8])
	case "pay":
		return m.pay(n[0], n[1])
	case "return":
		return m.back(n[0])
	}
	return "ok", api.OK
}

func (m *model) block(n int, recipe string) (string, api.Errno) {
	if n == 0 {
		return "", api.ErrArg
	}
	if _, there := m.lots[n]; there {
		return "", api.ErrThere
	}
	b, err := slab.Parse(recipe)
	if err != api.OK {
		return "", err
	}
	m.lots[n] = modelLot{day: m.day, recipe: b}
	e := must[[3]int](m.t)(slab.Extent(b))
	return fmt.Sprintf("%dx%dx%d", e[0], e[1], e[2]), api.OK
}

// cut counts boxes of 2400 by 900, at most 200, and the frames that the lot has.
func (m *model) cut(n, code, k int) (string, api.Errno) {
	lot, there := m.lots[n]
	if !there {
		return "", api.ErrNone
	}
	if !slices.ContainsFunc(m.setup.Sizes, func(s api.Size) bool { return s.Code == code }) {
		return "", api.ErrSize
	}
	if lot.day > m.day-7 {
		return "", api.ErrState
	}
	e := must[[3]int](m.t)(slab.Extent(lot.recipe))
	room := min(e[0]/8*(e[1]/3), 200) - k
	for _, f := range m.frames {
		if f.Lot == n {
			room--
		}
	}
	if room < 0 {
		return "", api.ErrStock
	}
	if k < 1 || k > 20 {
		return "", api.ErrArg
	}
	first := len(m.frames) + 1
	for len(m.frames) < first+k-1 {
		m.frames = append(m.frames, api.Frame{Number: len(m.frames) + 1, Size: code, Lot: n, State: api.FrameCut})
	}
	return fmt.Sprint(first, len(m.frames)), api.OK
}

// dark counts the letters of all layers.
func (m *model) dark(lot int) int {
	b := m.lots[lot].recipe
	e := must[[3]int](m.t)(slab.Extent(b))
	text := ""
	for z := range e[2] {
		text += strings.Join(must[[]string](m.t)(slab.Layer(b, 2, z)), "")
	}
	letters := strings.Split("abcdefghi", "")
	best := slices.MaxFunc(letters, func(x, y string) int { return strings.Count(text, x) - strings.Count(text, y) })
	return slices.Index(letters, best)
}

func (m *model) polish(n []int) (string, api.Errno) {
	if len(n) == 0 || len(n) > 20 || len(slices.Compact(slices.Sorted(slices.Values(n)))) < len(n) {
		return "", api.ErrArg
	}
	if slices.Min(n) < 1 || slices.Max(n) > len(m.frames) {
		return "", api.ErrNone
	}
	for _, i := range n {
		if m.frames[i-1].State != api.FrameCut {
			return "", api.ErrState
		}
	}
	for i := 1; i < len(n); i++ {
		a, b := m.frames[n[i-1]-1].Lot, m.frames[n[i]-1].Lot
		if m.dark(b) < m.dark(a) || b%10 < a%10 {
			return "", api.ErrDirty
		}
	}
	for _, i := range n {
		m.frames[i-1].State = api.FramePolished
	}
	return "ok", api.OK
}

func (m *model) temple(t api.Temple) (string, api.Errno) {
	if t.Number < 1 || t.Length < 1 || t.Length > 2000 || t.Colour < 1 || t.Colour > 9 {
		return "", api.ErrTemple
	}
	if m.known[t.Number].Number == t.Number {
		return "", api.ErrThere
	}
	if len(m.stock) >= 60 {
		return "", api.ErrLimit
	}
	m.known[t.Number] = t
	m.stock = append(m.stock, t)
	slices.SortFunc(m.stock, func(a, b api.Temple) int { return cmp.Compare(a.Number, b.Number) })
	return "ok", api.OK
}

func (m *model) fit() (string, api.Errno) {
	pairs := must[[][2]int](m.t)(temple.Match(m.stock, m.setup.Tol))
	gone := map[int]bool{}
	fitted := 0
	for i := range m.frames {
		if f := &m.frames[i]; f.State == api.FramePolished && fitted < len(pairs) {
			l, r := pairs[fitted][0], pairs[fitted][1]
			f.State, f.Left, f.Right = api.FrameReady, m.stock[l].Number, m.stock[r].Number
			gone[l], gone[r] = true, true
			fitted++
		}
	}
	var left []api.Temple
	for i, t := range m.stock {
		if !gone[i] {
			left = append(left, t)
		}
	}
	m.stock = left
	return fmt.Sprint(fitted), api.OK
}

func (m *model) ready() []int {
	var list []int
	for i, f := range m.frames {
		if f.State == api.FrameReady {
			list = append(list, i)
		}
	}
	return list
}

func (m *model) inspect(seed int) (string, api.Errno) {
	state, err := sample.State(m.setup.Scheme, m.found)
	expect(m.t, err, api.OK, "State")
	if state == api.InspectStopped {
		return "", api.ErrStopped
	}
	if len(m.found) >= 200 {
		return "", api.ErrLimit
	}
	ready := m.ready()
	if len(ready) == 0 || len(ready) > 60 {
		return "", api.ErrStock
	}
	plan := map[int]api.Plan{api.InspectNormal: m.setup.Scheme.Normal, api.InspectTight: m.setup.Scheme.Tight, api.InspectReduced: m.setup.Scheme.Reduced}[state]
	drawn, err := sample.Draw(seed, len(ready), min(plan.Sample, len(ready)))
	if err != api.OK {
		return "", err
	}
	var bad []int
	for _, i := range drawn {
		f := m.frames[ready[i]]
		if d := m.known[f.Left].Length - m.known[f.Right].Length; max(d, -d) > m.setup.Tol/2 {
			bad = append(bad, ready[i])
		}
	}
	m.found = append(m.found, len(bad))
	history, _, _ := sample.History(m.setup.Scheme, m.found)
	if history[len(history)-1].Accepted {
		return fmt.Sprint("accepted ", len(bad)), api.OK
	}
	for _, i := range bad {
		m.frames[i].Left, m.frames[i].Right, m.frames[i].State = 0, 0, api.FramePolished
	}
	return fmt.Sprint("refused ", len(bad)), api.OK
}

// entry is the entry of the book with a kind and a Ref.
func (m *model) entry(kind, ref int) (api.Entry, bool) {
	i := slices.IndexFunc(m.book, func(e api.Entry) bool { return e.Kind == kind && e.Ref == ref })
	if i < 0 {
		return api.Entry{}, false
	}
	return m.book[i], true
}

// add adds entries to the book, or none.
func (m *model) add(list ...api.Entry) api.Errno {
	book := slices.Clone(m.book)
	for _, e := range list {
		if e.Ref < 1 || e.Cents < 1 && e.Kind != api.EntryReturn {
			return api.ErrEntry
		}
		if _, there := m.entry(e.Kind, e.Ref); there {
			return api.ErrThere
		}
		if len(book) >= 200 {
			return api.ErrLimit
		}
		book = append(book, e)
	}
	slices.SortFunc(book, func(a, b api.Entry) int {
		return cmp.Or(cmp.Compare(a.Kind, b.Kind), cmp.Compare(a.Ref, b.Ref))
	})
	m.book = book
	return api.OK
}

// sell goes through all ready frames and keeps the best one.
func (m *model) sell(ref int, h api.Head, name string, cents int) (string, api.Errno) {
	if h.Number < 1 || slices.Max(h.M[:]) > api.MaxMeasure {
		return "", api.ErrHead
	}
	if _, there := m.entry(api.EntryInvoice, ref); there {
		return "", api.ErrThere
	}
	best, least := -1, [2]int{}
	for _, i := range m.ready() {
		s := m.setup.Sizes[slices.IndexFunc(m.setup.Sizes, func(s api.Size) bool { return s.Code == m.frames[i].Size })]
		if key := [2]int{m.needs(s, h), s.Code}; must[bool](m.t)(last.Fits(s, h)) && (best < 0 || slices.Compare(key[:], least[:]) < 0) {
			best, least = i, key
		}
	}
	if best < 0 {
		return "", api.ErrOpen
	}
	if price, ok := m.price(name); !ok || price != cents {
		return "", api.ErrPrice
	}
	if err := m.add(api.Entry{Kind: api.EntryInvoice, Ref: ref, Day: m.day, Cents: cents}); err != api.OK {
		return "", err
	}
	f := &m.frames[best]
	f.State, f.Head, f.Ref = api.FrameSold, h.Number, ref
	return fmt.Sprint(f.Number), api.OK
}

func (m *model) needs(s api.Size, h api.Head) int {
	all := 0
	for _, n := range must[[5]int](m.t)(last.Need(s, h)) {
		all += n
	}
	return all
}

// price is the one of the latest day, for one piece.
func (m *model) price(name string) (int, bool) {
	day, cents := -1, 0
	for _, p := range m.setup.Prices {
		if p.Model == name && p.Day <= m.day && p.Day > day {
			day, cents = p.Day, p.Steps[0].Cents
		}
	}
	return cents, day >= 0
}

func (m *model) pay(ref, cents int) (string, api.Errno) {
	if _, there := m.entry(api.EntryInvoice, ref); !there {
		return "", api.ErrNone
	}
	if err := m.add(api.Entry{Kind: api.EntryPay, Ref: ref, Day: m.day, Cents: cents}); err != api.OK {
		return "", err
	}
	balance := 0
	for _, e := range m.book {
		if e.Kind == api.EntryInvoice {
			balance += 2 * e.Cents
		}
		balance -= e.Cents
	}
	return fmt.Sprint(balance), api.OK
}

func (m *model) back(n int) (string, api.Errno) {
	if n < 1 || n > len(m.frames) {
		return "", api.ErrNone
	}
	f := &m.frames[n-1]
	if f.State != api.FrameSold {
		return "", api.ErrState
	}
	invoice, _ := m.entry(api.EntryInvoice, f.Ref)
	if m.day > invoice.Day+730 {
		return "", api.ErrArg
	}
	err := m.add(api.Entry{Kind: api.EntryReturn, Ref: f.Ref, Day: m.day}, api.Entry{Kind: api.EntryCredit, Ref: f.Ref, Day: m.day, Cents: invoice.Cents})
	if err != api.OK {
		return "", err
	}
	f.State = api.FrameBack
	return "ok", api.OK
}

func (m *model) view() string {
	return fmt.Sprintf("lines %q, day %d, frames %v, stock %v, book %v, inspection %v", m.lines, m.day, m.frames, m.stock, m.book, m.found)
}

package ledger_test

import (
	"bytes"
	"fmt"
	"math"
	"math/rand/v2"
	"strings"
	"testing"

	"pantoscope/api"
	"pantoscope/ledger"
)

const greatestTurn = math.MaxInt32

// opened is the journal of a disk that is up.
func opened(t *testing.T, d *ledger.Disk) *ledger.Journal {
	t.Helper()
	return must[*ledger.Journal](t)(ledger.Open(d))
}

// P9.8, P9.9: a Save writes the length, the image and the next turn into the slot of the turn.
func TestSave(t *testing.T) {
	d := ledger.NewDisk()
	j := opened(t, d)
	expectJournal(t, j, 0, "")
	expectSlots(t, d, nil, nil)
	expect(t, j.Save([]byte("a")), api.OK, "Save")
	expectJournal(t, j, 1, "a")
	expectSlots(t, d, nil, []byte("\x00\x00\x00\x01a\x00\x00\x00\x01"))
	expect(t, j.Save(nil), api.OK, "Save")
	expectJournal(t, j, 2, "")
	expectSlots(t, d, []byte("\x00\x00\x00\x00\x00\x00\x00\x02"), []byte("\x00\x00\x00\x01a\x00\x00\x00\x01"))
	long := strings.Repeat("l", 300)
	expect(t, j.Save([]byte(long)), api.OK, "Save")
	expectJournal(t, j, 3, long)
	expectSlots(t, d, []byte("\x00\x00\x00\x00\x00\x00\x00\x02"), []byte("\x00\x00\x01\x2c"+long+"\x00\x00\x00\x03"))
	if j.Dead() {
		t.Error("the journal is dead")
	}
	expectJournal(t, opened(t, d), 3, long)
}

// P9.8, P9.9: Open takes the greater turn of the slots that hold one that belongs to them.
func TestOpen(t *testing.T) {
	image := []byte("image")
	for name, c := range map[string]struct {
		zero, one []byte
		turn      int
		want      string
	}{
		"empty":               {nil, nil, 0, ""},
		"one":                 {nil, holding(image, 1), 1, "image"},
		"zero":                {holding(image, 2), nil, 2, "image"},
		"later in zero":       {holding([]byte("new"), 8), holding(image, 7), 8, "new"},
		"later in one":        {holding(image, 8), holding([]byte("new"), 9), 9, "new"},
		"far":                 {holding(image, 8), holding([]byte("new"), 1001), 1001, "new"},
		"empty image":         {holding(nil, 4), holding(image, 3), 4, ""},
		"like a turn":         {nil, holding([]byte("\x00\x00\x00\x02"), 1), 1, "\x00\x00\x00\x02"},
		"greatest":            {holding(image, greatestTurn-1), holding([]byte("new"), greatestTurn), greatestTurn, "new"},
		"longest":             {nil, holding(bytes.Repeat([]byte("i"), api.MaxImage), 5), 5, strings.Repeat("i", api.MaxImage)},
		"of the other slots":  {holding(image, 1), holding(image, 2), 0, ""},
		"zero of another":     {holding(image, 9), holding([]byte("own"), 7), 7, "own"},
		"one of another":      {holding([]byte("own"), 6), holding(image, 8), 6, "own"},
		"turn 0":              {holding(image, 0), nil, 0, ""},
		"turn 2^31":           {holding(image, 1<<31), nil, 0, ""},
		"turn 2^31 + 1":       {nil, holding(image, 1<<31+1), 0, ""},
		"turn 2^32 - 1":       {nil, holding(image, 1<<32-1), 0, ""},
		"one byte more":       {nil, append(holding(image, 1), 1), 0, ""},
		"another turn behind": {nil, append(holding(image, 1), 0, 0, 0, 1), 0, ""},
		"one byte less":       {nil, holding(image, 1<<8)[:12], 0, ""},
		"one byte in front":   {nil, append([]byte{0}, holding(image, 1)...), 0, ""},
		"length too great":    {nil, slotBytes(6, image, 1), 0, ""},
		"length too small":    {nil, slotBytes(4, image, 1), 0, ""},
		"greatest length":     {nil, slotBytes(1<<32-1, image, 1), 0, ""},
		"image too long":      {holding([]byte("own"), 2), holding(make([]byte, api.MaxImage+1), 5), 2, "own"},
		"length alone":        {nil, []byte{0, 0, 0, 0}, 0, ""},
		"7 bytes":             {nil, []byte{0, 0, 0, 0, 0, 0, 1}, 0, ""},
		"8 bytes":             {nil, []byte{0, 0, 0, 0, 0, 0, 0, 1}, 1, ""},
		"other order":         {nil, []byte{0, 0, 0, 0, 1, 0, 0, 0}, 0, ""},
		"other text":          {[]byte("what is this"), []byte("\xff\xff\xff\xff\xff\xff\xff\xff"), 0, ""},
	} {
		t.Run(name, func(t *testing.T) {
			d := disk(t, c.zero, c.one)
			d.Arm(1, 0)
			j := opened(t, d)
			expectJournal(t, j, c.turn, c.want)
			expectSlots(t, d, c.zero, c.one) // Open only reads
			if j.Dead() || d.Down() {
				t.Errorf("Dead %v, Down %v", j.Dead(), d.Down())
			}
			d.Arm(0, 0)
			if c.turn == greatestTurn {
				return
			}
			expect(t, j.Save([]byte("next")), api.OK, "Save")
			expectJournal(t, opened(t, d), c.turn+1, "next")
		})
	}
}

// P9.9: the errors of Save, in their order; ErrLimit changes nothing.
func TestSaveErrors(t *testing.T) {
	long := make([]byte, api.MaxImage+1)
	for _, j := range []*ledger.Journal{nil, {}} {
		for _, image := range [][]byte{nil, long} {
			expect(t, j.Save(image), api.ErrDown, "Save of no journal")
		}
	}
	d := ledger.NewDisk()
	j := opened(t, d)
	expect(t, j.Save([]byte("a")), api.OK, "Save")
	expect(t, j.Save(long), api.ErrLimit, "Save of a long image")
	expectSlots(t, d, nil, holding([]byte("a"), 1))
	d.Arm(1, 100)
	expect(t, j.Save(long), api.ErrLimit, "Save of a long image")
	expect(t, d.Write(0, nil), api.ErrDown, "Write")
	expect(t, j.Save(long), api.ErrLimit, "Save of a long image on a disk that is down")
	if j.Dead() {
		t.Error("dead by ErrLimit")
	}
	expect(t, j.Save(nil), api.ErrDown, "Save on a disk that is down")
	if !j.Dead() {
		t.Error("not dead by ErrDown")
	}
	expect(t, j.Save(long), api.ErrDead, "Save of a long image of a dead journal")
	expect(t, j.Save(nil), api.ErrDead, "Save of a dead journal")
	expectJournal(t, j, 1, "a")
	d.Restart()
	expect(t, j.Save(nil), api.ErrDead, "Save of a dead journal")
	expectSlots(t, d, nil, holding([]byte("a"), 1))
	expect(t, opened(t, d).Save(long[1:]), api.OK, "Save of a journal opened again")
}

// P9.9: the greatest turn is the last one.
func TestLastTurn(t *testing.T) {
	d := disk(t, holding([]byte("a"), greatestTurn-1))
	j := opened(t, d)
	expect(t, j.Save([]byte("b")), api.OK, "Save")
	for range 2 {
		expectJournal(t, j, greatestTurn, "b")
		expect(t, j.Save([]byte("c")), api.ErrLimit, "Save")
		expectSlots(t, d, holding([]byte("a"), greatestTurn-1), holding([]byte("b"), greatestTurn))
	}
	j = opened(t, d)
	expect(t, j.Save(nil), api.ErrLimit, "Save")
	d.Arm(1, 0)
	expect(t, d.Write(0, nil), api.ErrDown, "Write")
	expect(t, j.Save(nil), api.ErrLimit, "Save on a disk that is down")
	d.Restart()
	expect(t, j.Save(nil), api.ErrDead, "Save of a dead journal")
}

// P9.9: Open of a disk that is down.
func TestOpenOfADiskThatIsDown(t *testing.T) {
	d := disk(t, nil, holding([]byte("a"), 1))
	d.Arm(1, 0)
	expect(t, d.Write(0, nil), api.ErrDown, "Write")
	if j, e := ledger.Open(d); j != nil || e != api.ErrDown {
		t.Errorf("Open: %v, %d", j, e)
	}
	d.Restart()
	expectJournal(t, opened(t, d), 1, "a")
}

// P9.7, P9.9: a Restart kills the journals that were opened before, also where the disk was up; they do not write.
func TestRestartKills(t *testing.T) {
	d := ledger.NewDisk()
	one := opened(t, d)
	expect(t, one.Save([]byte("a")), api.OK, "Save")
	d.Restart()
	two := opened(t, d)
	if !one.Dead() || two.Dead() {
		t.Errorf("Dead: %v, %v", one.Dead(), two.Dead())
	}
	expect(t, one.Save([]byte("b")), api.ErrDead, "Save of the first journal")
	expectJournal(t, one, 1, "a")
	expectSlots(t, d, nil, holding([]byte("a"), 1))
	expect(t, two.Save([]byte("c")), api.OK, "Save of the second journal")
	d.Restart()
	d.Restart()
	for _, j := range []*ledger.Journal{one, two} {
		if !j.Dead() {
			t.Error("a journal is not dead")
		}
		expect(t, j.Save(nil), api.ErrDead, "Save of a dead journal")
	}
	expectJournal(t, two, 2, "c")
	expectJournal(t, opened(t, d), 2, "c")
}

// P9.9: a Save is one Write, and the one that fails keeps the turn and the image; also where all its bytes are written.
func TestSaveThatFails(t *testing.T) {
	for keep := range 12 {
		d := ledger.NewDisk()
		j := opened(t, d)
		d.Arm(3, keep)
		expect(t, j.Save([]byte("a")), api.OK, "Save")
		expect(t, j.Save([]byte("b")), api.OK, "Save")
		expect(t, j.Save([]byte("c")), api.ErrDown, "Save")
		expectJournal(t, j, 2, "b")
		if !j.Dead() || !d.Down() {
			t.Fatalf("Dead %v, Down %v", j.Dead(), d.Down())
		}
		expect(t, j.Save([]byte("d")), api.ErrDead, "Save")
		d.Restart()
		expect(t, j.Save([]byte("d")), api.ErrDead, "Save")
		bytes := holding([]byte("c"), 3)
		expectSlots(t, d, holding([]byte("b"), 2), bytes[:min(keep, len(bytes))])
	}
}

// P9.7, P9.9: a copy of a disk does not know the journals on it, and they do not know the copy.
func TestJournalOfACopy(t *testing.T) {
	d := ledger.NewDisk()
	j := opened(t, d)
	expect(t, j.Save([]byte("a")), api.OK, "Save")
	c := d.Copy()
	expect(t, j.Save([]byte("b")), api.OK, "Save")
	expectSlots(t, c, nil, holding([]byte("a"), 1))
	c.Restart()
	if j.Dead() {
		t.Error("dead by a Restart of the copy")
	}
	k := opened(t, c)
	expectJournal(t, k, 1, "a")
	expect(t, k.Save([]byte("c")), api.OK, "Save")
	d.Restart()
	if !j.Dead() || k.Dead() {
		t.Errorf("Dead: %v, %v", j.Dead(), k.Dead())
	}
	expectJournal(t, opened(t, d), 2, "b")
	expectJournal(t, opened(t, c), 2, "c")
}

// P9.9, R7: a nil journal, and a zero value.
func TestNoJournal(t *testing.T) {
	for _, j := range []*ledger.Journal{nil, {}} {
		expectJournal(t, j, 0, "")
		if !j.Dead() {
			t.Error("not dead")
		}
		expect(t, j.Save([]byte("a")), api.ErrDown, "Save")
		expect(t, j.Save([]byte("a")), api.ErrDown, "Save")
		expectJournal(t, j, 0, "")
	}
}

// R4: a journal keeps copies, and returns copies.
func TestJournalCopies(t *testing.T) {
	given := append(make([]byte, 0, 16), "given"...)
	d := ledger.NewDisk()
	j := opened(t, d)
	expect(t, j.Save(given), api.OK, "Save")
	spoil(given, 'x')
	again := opened(t, d)
	for _, k := range []*ledger.Journal{j, again, j, again} {
		expectJournal(t, k, 1, "given")
		spoil(k.Image(), 'x')
		spoil(must[[]byte](t)(d.Read(1)), 'x')
	}
	expect(t, d.Write(1, holding([]byte("other"), 1)), api.OK, "Write")
	expectJournal(t, j, 1, "given")
	expectJournal(t, again, 1, "given")
}

// P9.13: behind each loss of power, with any keep, there is the last image that was acknowledged, or the one under way.
func TestLossOfPower(t *testing.T) {
	images := []string{"", "a", "bb", "\x00\x00\x00\x01", "", "\x00\x00\x00\x00\x00\x00\x00\x07", "long", "\x00\x00\x00\x00\x00\x00\x00\x08"}
	for n := 1; n <= len(images); n++ {
		for keep := -1; keep < 20; keep++ {
			d := ledger.NewDisk()
			j := opened(t, d)
			d.Arm(n, keep)
			for i, image := range images[:n] {
				want := api.OK
				if i == n-1 {
					want = api.ErrDown
				}
				expect(t, j.Save([]byte(image)), want, "Save")
			}
			d.Restart()
			turn, image := n-1, ""
			if n > 1 {
				image = images[n-2]
			}
			if keep >= len(images[n-1])+8 {
				turn, image = n, images[n-1]
			}
			expectJournal(t, opened(t, d), turn, image)
		}
	}
}

// P9.13: and so behind many losses.
func TestManyLosses(t *testing.T) {
	r := rand.New(rand.NewPCG(13, 14))
	d := ledger.NewDisk()
	acknowledged, turn := "", 0
	behind := map[bool]int{}
	for life := range 5000 {
		j := opened(t, d)
		expectJournal(t, j, turn, acknowledged)
		d.Arm(r.IntN(6), r.IntN(40)-2)
		for saves := range r.IntN(6) {
			image := fmt.Sprint(life, saves, strings.Repeat("x", r.IntN(20)))
			e := j.Save([]byte(image))
			if e == api.OK {
				acknowledged, turn = image, turn+1
				continue
			}
			expect(t, e, api.ErrDown, "Save")
			d.Restart()
			found := opened(t, d)
			underWay := string(found.Image()) == image
			behind[underWay]++
			if underWay {
				acknowledged, turn = image, turn+1
			}
			expectJournal(t, found, turn, acknowledged)
			break
		}
		if r.IntN(4) == 0 {
			d.Restart()
		}
	}
	if behind[true] < 300 || behind[false] < 300 {
		t.Errorf("losses with the image under way, and without: %v", behind)
	}
}

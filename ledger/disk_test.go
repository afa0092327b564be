package ledger_test

import (
	"bytes"
	"math"
	"math/rand/v2"
	"slices"
	"testing"

	"pantoscope/api"
	"pantoscope/ledger"
)

// P9.7: a new disk is up, with empty slots; a Write replaces all that its slot has, and nothing of the other one.
func TestDisk(t *testing.T) {
	d, beside := ledger.NewDisk(), ledger.NewDisk()
	if d.Down() {
		t.Error("a new disk is down")
	}
	expectSlots(t, d, nil, nil)
	expect(t, d.Write(0, []byte("first")), api.OK, "Write")
	expectSlots(t, d, []byte("first"), nil)
	expect(t, d.Write(1, []byte{0, 255}), api.OK, "Write")
	expect(t, d.Write(0, []byte("new")), api.OK, "Write")
	expectSlots(t, d, []byte("new"), []byte{0, 255})
	expect(t, d.Write(1, nil), api.OK, "Write")
	expectSlots(t, d, []byte("new"), nil)
	expectSlots(t, beside, nil, nil)
	long := bytes.Repeat([]byte("long"), api.MaxImage)
	expect(t, d.Write(1, long), api.OK, "Write")
	expectSlots(t, d, []byte("new"), long)
}

// P9.7: ErrArg is that of a disk that is up.
func TestDiskErrors(t *testing.T) {
	d, down := disk(t, []byte("a"), []byte("b")), ledger.NewDisk()
	down.Arm(1, 0)
	expect(t, down.Write(0, nil), api.ErrDown, "Write")
	for _, slot := range []int{-1, 2, 0, 1, math.MinInt, math.MaxInt} {
		for _, dead := range []*ledger.Disk{nil, {}, down} {
			if r := results(dead.Read(slot)); !isError(r, api.ErrDown) || !dead.Down() {
				t.Errorf("Read of slot %d: %v", slot, r)
			}
			expect(t, dead.Write(slot, []byte("c")), api.ErrDown, "Write")
		}
		if slot == 0 || slot == 1 {
			continue
		}
		if r := results(d.Read(slot)); !isError(r, api.ErrArg) {
			t.Errorf("Read of slot %d: %v", slot, r)
		}
		expect(t, d.Write(slot, []byte("c")), api.ErrArg, "Write")
	}
	expectSlots(t, d, []byte("a"), []byte("b"))
	down.Restart()
	expectSlots(t, down, nil, nil)
}

// P9.7: the Write that fails leaves the first bytes; none of them if keep is negative, all of them if there are fewer.
func TestArmKeeps(t *testing.T) {
	for keep, want := range map[int]string{
		0: "", 1: "n", 2: "ne", 3: "new", 4: "new", -1: "", math.MinInt: "", math.MaxInt: "new",
	} {
		for slot, slots := range [][][]byte{{[]byte(want), []byte("other")}, {[]byte("older"), []byte(want)}} {
			d := disk(t, []byte("older"), []byte("other"))
			d.Arm(1, keep)
			expect(t, d.Write(slot, []byte("new")), api.ErrDown, "Write")
			if !d.Down() {
				t.Fatal("the disk is up")
			}
			expect(t, d.Write(slot, []byte("newer")), api.ErrDown, "Write")
			d.Restart()
			expectSlots(t, d, slots...)
			expect(t, d.Write(slot, []byte("newer")), api.OK, "Write")
		}
	}
}

// P9.7: the n-th Write that would return OK fails, whatever the slot and the bytes; Writes with an error and Reads do not count.
func TestArmCounts(t *testing.T) {
	for n := 1; n < 6; n++ {
		d := ledger.NewDisk()
		d.Arm(n, 1)
		for i := 1; i < n; i++ {
			expect(t, d.Write(2, []byte("xx")), api.ErrArg, "Write")
			expectSlots(t, d, nil)
			expect(t, d.Write(i%2, nil), api.OK, "Write")
		}
		expect(t, d.Write(-1, []byte("xx")), api.ErrArg, "Write")
		expect(t, d.Write(0, []byte("xx")), api.ErrDown, "Write")
		d.Restart()
		expectSlots(t, d, []byte("x"), nil)
		for range 20 {
			expect(t, d.Write(0, []byte("yy")), api.OK, "Write behind the loss")
		}
	}
}

// P9.7: Arm takes the place of what was armed; with a number less than 1 nothing is armed, and so behind a Restart.
func TestArmAgain(t *testing.T) {
	for name, c := range map[string]struct {
		again func(d *ledger.Disk)
		fails int // which Write fails, or 0
	}{
		"later":        {func(d *ledger.Disk) { d.Arm(4, 2) }, 4},
		"sooner":       {func(d *ledger.Disk) { d.Arm(1, 2) }, 1},
		"not":          {func(d *ledger.Disk) { d.Arm(0, 2) }, 0},
		"negative":     {func(d *ledger.Disk) { d.Arm(-1, 2) }, 0},
		"least":        {func(d *ledger.Disk) { d.Arm(math.MinInt, 2) }, 0},
		"greatest":     {func(d *ledger.Disk) { d.Arm(math.MaxInt, 2) }, 0},
		"restarted":    {func(d *ledger.Disk) { d.Restart() }, 0},
		"as it was":    {func(*ledger.Disk) {}, 2},
		"of a restart": {func(d *ledger.Disk) { d.Restart(); d.Arm(3, 2) }, 3},
	} {
		d := ledger.NewDisk()
		d.Arm(3, 5)
		expect(t, d.Write(0, nil), api.OK, name)
		c.again(d)
		for i := 1; i < 9; i++ {
			if i == c.fails {
				expect(t, d.Write(1, []byte("xxx")), api.ErrDown, name)
				break
			}
			expect(t, d.Write(1, nil), api.OK, name)
		}
		if d.Down() != (c.fails > 0) {
			t.Errorf("%s: Down is %v", name, d.Down())
		}
	}
}

// P9.7: Arm of a disk that is down arms nothing that a Restart would leave.
func TestArmOfADiskThatIsDown(t *testing.T) {
	d := ledger.NewDisk()
	d.Arm(1, 0)
	expect(t, d.Write(0, nil), api.ErrDown, "Write")
	d.Arm(1, 0)
	expect(t, d.Write(0, nil), api.ErrDown, "Write")
	d.Restart()
	expect(t, d.Write(0, []byte("a")), api.OK, "Write")
}

// P9.7: a copy is the same, also in what is armed and in that it is down, and independent.
func TestCopy(t *testing.T) {
	d := disk(t, []byte("a"), []byte("b"))
	d.Arm(2, 1)
	c := d.Copy()
	expect(t, d.Write(0, []byte("dd")), api.OK, "Write")
	expectSlots(t, c, []byte("a"), []byte("b"))
	expect(t, d.Write(1, []byte("dd")), api.ErrDown, "Write")
	expect(t, c.Write(1, []byte("cc")), api.OK, "Write")
	expect(t, c.Write(0, []byte("cc")), api.ErrDown, "Write")
	down := d.Copy()
	d.Restart()
	if d.Down() || !c.Down() || !down.Down() {
		t.Errorf("Down: %v, %v, %v", d.Down(), c.Down(), down.Down())
	}
	c.Restart()
	down.Restart()
	expectSlots(t, d, []byte("dd"), []byte("d"))
	expectSlots(t, c, []byte("c"), []byte("cc"))
	expectSlots(t, down, []byte("dd"), []byte("d"))
	for range 3 {
		expect(t, down.Write(0, nil), api.OK, "Write to the copy")
	}
	expectSlots(t, d, []byte("dd"), []byte("d"))
}

// P9.7, R7: a nil disk, and a zero value, are down and stay so.
func TestNoDisk(t *testing.T) {
	for _, d := range []*ledger.Disk{nil, {}} {
		for range 2 {
			d.Arm(1, 5)
			d.Restart()
			d.Arm(0, 0)
			if j, e := ledger.Open(d); !d.Down() || d.Copy() != nil || j != nil || e != api.ErrDown {
				t.Errorf("Down %v, Copy %v, Open %v, %d", d.Down(), d.Copy(), j, e)
			}
			expect(t, d.Write(0, nil), api.ErrDown, "Write")
			if r := results(d.Read(0)); !isError(r, api.ErrDown) {
				t.Errorf("Read: %v", r)
			}
		}
	}
}

// modelDisk is a disk, as the chapter describes it.
type modelDisk struct {
	down    bool
	slots   [2]string
	n, keep int
}

func (m *modelDisk) write(slot int, text string) api.Errno {
	switch {
	case m.down:
		return api.ErrDown
	case slot < 0 || slot > 1:
		return api.ErrArg
	}
	m.n--
	if m.n != 0 {
		m.slots[slot] = text
		return api.OK
	}
	m.down = true
	m.slots[slot] = ""
	for i, b := range []byte(text) {
		if i < m.keep {
			m.slots[slot] += string(rune(b))
		}
	}
	return api.ErrDown
}

// P9.7: long rows of calls, held against the chapter.
func TestDiskAgainstModel(t *testing.T) {
	r := rand.New(rand.NewPCG(11, 12))
	d, m := ledger.NewDisk(), modelDisk{}
	losses := 0
	for range 50_000 {
		slot := r.IntN(4) - 1
		switch r.IntN(8) {
		case 0:
			m.n, m.keep = r.IntN(5)-1, r.IntN(9)-2
			d.Arm(m.n, m.keep)
		case 1:
			d.Restart()
			m.down, m.n = false, 0
		case 2:
			d = d.Copy()
		case 3:
			got, e := d.Read(slot)
			switch {
			case m.down:
				expect(t, e, api.ErrDown, "Read")
			case slot < 0 || slot > 1:
				expect(t, e, api.ErrArg, "Read")
			default:
				expect(t, e, api.OK, "Read")
				if string(got) != m.slots[slot] {
					t.Fatalf("slot %d: %q, not %q", slot, got, m.slots[slot])
				}
			}
		default:
			text := "abcdefg"[r.IntN(7):]
			up := !m.down
			expect(t, d.Write(slot, []byte(text)), m.write(slot, text), "Write")
			if up && m.down {
				losses++
			}
		}
		if d.Down() != m.down {
			t.Fatalf("Down is %v", d.Down())
		}
	}
	if losses < 500 {
		t.Errorf("only %d losses of power", losses)
	}
}

// R4: a disk keeps copies, and returns copies.
func TestDiskCopies(t *testing.T) {
	given := append(make([]byte, 0, 16), "given"...)
	d := ledger.NewDisk()
	expect(t, d.Write(0, given), api.OK, "Write")
	d.Arm(1, 3)
	expect(t, d.Write(1, given), api.ErrDown, "Write")
	c := d.Copy()
	d.Restart()
	c.Restart()
	spoil(given, 'x')
	for _, disk := range []*ledger.Disk{d, c} {
		for slot := range 2 {
			spoil(must[[]byte](t)(disk.Read(slot)), 'x')
		}
		expectSlots(t, d, []byte("given"), []byte("giv"))
		expectSlots(t, c, []byte("given"), []byte("giv"))
	}
	if !slices.Equal(given, []byte("xxxxx")) {
		t.Errorf("%q", given)
	}
}

package ledger

import "pantoscope/api"

const maxTurn = 1<<31 - 1

// Journal keeps images on a disk: the one before stays in the other slot while one is written.
type Journal struct {
	disk   *Disk // nil for a zero value, which behaves like a nil journal
	start  int   // of the disk, since which the journal is open
	failed bool  // whether a Save has found the disk down
	turn   int
	image  []byte
}

// Open returns the journal of a disk.
func Open(d *Disk) (*Journal, api.Errno) {
	if d.Down() {
		return nil, api.ErrDown
	}
	j := &Journal{disk: d, start: d.starts}
	for slot, bytes := range d.slots {
		if image, turn := held(slot, bytes); turn > j.turn {
			j.turn, j.image = turn, copied(image)
		}
	}
	return j, api.OK
}

// Turn returns the turn of the image.
func (j *Journal) Turn() int {
	if !j.isOpened() {
		return 0
	}
	return j.turn
}

// Image returns the image that was saved last.
func (j *Journal) Image() []byte {
	if !j.isOpened() {
		return nil
	}
	return copied(j.image)
}

// Dead reports whether nothing can be saved any more.
func (j *Journal) Dead() bool {
	return !j.isOpened() || j.failed || j.start != j.disk.starts
}

// Save writes an image with the next turn into its slot.
func (j *Journal) Save(image []byte) api.Errno {
	if !j.isOpened() {
		return api.ErrDown
	}
	if j.Dead() {
		return api.ErrDead
	}
	if len(image) > api.MaxImage || j.turn == maxTurn {
		return api.ErrLimit
	}
	turn := j.turn + 1
	if err := j.disk.Write(slotOf(turn), holding(image, turn)); err != api.OK {
		j.failed = true
		return err
	}
	j.turn, j.image = turn, copied(image)
	return api.OK
}

func (j *Journal) isOpened() bool {
	return j != nil && j.disk != nil
}

func slotOf(turn int) int {
	return turn % 2
}

// holding are the bytes of a slot that holds an image and a turn.
func holding(image []byte, turn int) []byte {
	bytes := withNumber(nil, len(image))
	bytes = append(bytes, image...)
	return withNumber(bytes, turn)
}

// held are the image and the turn that the bytes of a slot hold; the turn is 0 if they hold none that belongs to it.
func held(slot int, bytes []byte) ([]byte, int) {
	end := len(bytes) - numberBytes
	if !within(end-numberBytes, 0, api.MaxImage) || numberAt(bytes, 0) != end-numberBytes {
		return nil, 0
	}
	turn := numberAt(bytes, end)
	if !within(turn, 1, maxTurn) || slotOf(turn) != slot {
		return nil, 0
	}
	return bytes[numberBytes:end], turn
}

package ledger

import "pantoscope/api"

// Disk has two slots of bytes, and may lose its power in any Write.
type Disk struct {
	starts int // how often it was made up, by NewDisk and by Restart: 0 for a zero value, which behaves like a nil disk
	up     bool
	slots  [2][]byte
	fails  int // the Writes up to the one that fails, together with it, or 0 if nothing is armed
	keep   int // how many bytes the one that fails leaves
}

// NewDisk returns a disk that is up, with empty slots.
func NewDisk() *Disk {
	return &Disk{starts: 1, up: true}
}

// Write replaces the bytes of a slot.
func (d *Disk) Write(slot int, b []byte) api.Errno {
	if err := d.check(slot); err != api.OK {
		return err
	}
	if d.fails == 1 {
		d.slots[slot] = copied(b[:min(max(d.keep, 0), len(b))])
		d.up = false
		d.Arm(0, 0)
		return api.ErrDown
	}
	if d.fails > 0 {
		d.fails--
	}
	d.slots[slot] = copied(b)
	return api.OK
}

// Read returns the bytes of a slot.
func (d *Disk) Read(slot int) ([]byte, api.Errno) {
	if err := d.check(slot); err != api.OK {
		return nil, err
	}
	return copied(d.slots[slot]), api.OK
}

// Arm makes the n-th Write from now on fail and leave so many bytes; with n less than 1 none fails.
func (d *Disk) Arm(n, keep int) {
	if d.isMade() {
		d.fails, d.keep = max(n, 0), keep
	}
}

// Restart makes a disk up again; all journals that were opened before are dead.
func (d *Disk) Restart() {
	if !d.isMade() {
		return
	}
	d.Arm(0, 0)
	d.up = true
	d.starts++
}

// Down reports whether a disk is down.
func (d *Disk) Down() bool {
	return !d.isMade() || !d.up
}

// Copy returns a disk that is the same, without the journals on it.
func (d *Disk) Copy() *Disk {
	if !d.isMade() {
		return nil
	}
	c := *d
	for i, bytes := range d.slots {
		c.slots[i] = copied(bytes)
	}
	return &c
}

func (d *Disk) isMade() bool {
	return d != nil && d.starts > 0
}

// check tells why a slot cannot be written or read.
func (d *Disk) check(slot int) api.Errno {
	if d.Down() {
		return api.ErrDown
	}
	if !within(slot, 0, len(d.slots)-1) {
		return api.ErrArg
	}
	return api.OK
}

func copied(bytes []byte) []byte {
	c := make([]byte, len(bytes))
	copy(c, bytes)
	return c
}

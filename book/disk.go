package book

import (
	"slices"

	"blazon/api"
)

// Disk has one file of bytes, and loses power. Only NewDisk makes one that can be used.
type Disk struct {
	made    bool
	bytes   []byte
	safe    int // how many of the bytes survive every loss of power; the others are loose
	down    bool
	armed   int // how many calls from now on the one stands that fails, or 0
	crashes int // how often the disk has lost power: logs know by it that they are dead
}

// NewDisk returns a disk that is up, with no bytes.
func NewDisk() *Disk {
	return &Disk{made: true}
}

// Append puts bytes at the end, loose.
func (d *Disk) Append(b []byte) api.Errno {
	if d.Down() || d.fails() {
		return api.ErrDown
	}
	d.bytes = append(d.bytes, b...)
	return api.OK
}

// Sync makes all bytes safe.
func (d *Disk) Sync() api.Errno {
	if d.Down() || d.fails() {
		return api.ErrDown
	}
	d.safe = len(d.bytes)
	return api.OK
}

// Cut leaves the first n bytes, all of them safe.
func (d *Disk) Cut(n int) api.Errno {
	if d.Down() {
		return api.ErrDown
	}
	if !within(0, len(d.bytes), n) {
		return api.ErrArg
	}
	if d.fails() {
		return api.ErrDown
	}
	d.keep(n)
	return api.OK
}

// Read returns all bytes.
func (d *Disk) Read() ([]byte, api.Errno) {
	if d.Down() {
		return nil, api.ErrDown
	}
	return slices.Clone(d.bytes), api.OK
}

// Arm makes the n-th call of Append, Sync or Cut from now on that would be right fail; none, if n is less than 1.
func (d *Disk) Arm(n int) {
	if d.missing() {
		return
	}
	d.armed = max(n, 0)
}

// Crash is a loss of power: of the loose bytes only the first ones remain.
func (d *Disk) Crash(keep int) {
	if d.missing() {
		return
	}
	loose := len(d.bytes) - d.safe
	d.keep(d.safe + min(max(keep, 0), loose))
	d.down = false
	d.armed = 0
	d.crashes++
}

// Down reports whether a disk is down.
func (d *Disk) Down() bool {
	return d.missing() || d.down
}

// Copy returns a disk that is independent of d and the same.
func (d *Disk) Copy() *Disk {
	if d.missing() {
		return nil
	}
	c := *d
	c.bytes = slices.Clone(d.bytes)
	return &c
}

// missing reports whether a disk is nil or a zero value.
func (d *Disk) missing() bool {
	return d == nil || !d.made
}

// fails reports whether a call that would be right is the one that was armed; if it is, the disk goes down.
func (d *Disk) fails() bool {
	if d.armed == 0 {
		return false
	}
	d.armed--
	d.down = d.armed == 0
	return d.down
}

// keep leaves the first n bytes, and makes them safe.
func (d *Disk) keep(n int) {
	d.bytes = d.bytes[:n]
	d.safe = n
}

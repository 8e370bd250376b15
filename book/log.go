package book

import (
	"bytes"
	"slices"

	"blazon/api"
)

// The parts of the encoding of an entry: the mark and the length in front of it, the checksum behind it.
const (
	mark       = 0x42
	wideMark   = 1
	wideLength = 2
	wideFront  = wideMark + wideLength
	wideSum    = 4
	polynomial = 0xEDB88320
)

// Log is a list of entries on a disk. Only Open makes one that can be used.
type Log struct {
	disk    *Disk
	crashes int  // how often the disk had lost power when the log was opened
	failed  bool // a Put has returned ErrDown
	entries [][]byte
}

// Open returns the log on a disk, from which all bytes behind the last whole entry are cut off.
func Open(d *Disk) (*Log, api.Errno) {
	b, err := d.Read()
	if err != api.OK {
		return nil, err
	}
	entries, whole := decodeAll(b)
	if whole < len(b) {
		err = d.Cut(whole)
	} else {
		// What was found may be loose yet: a log whose Put failed may have left it.
		err = d.Sync()
	}
	if err != api.OK {
		return nil, err
	}
	return &Log{disk: d, crashes: d.crashes, entries: entries}, api.OK
}

// Entries returns the entries.
func (l *Log) Entries() [][]byte {
	if l.missing() {
		return nil
	}
	var entries [][]byte
	for _, e := range l.entries {
		entries = append(entries, slices.Clone(e))
	}
	return entries
}

// Put puts an entry behind the others, safely.
func (l *Log) Put(entry []byte) api.Errno {
	if l.missing() {
		return api.ErrDown
	}
	if l.failed || l.crashes != l.disk.crashes {
		return api.ErrDead
	}
	if len(entry) > api.MaxEntry {
		return api.ErrArg
	}
	if l.write(encode(entry)) != api.OK {
		l.failed = true
		return api.ErrDown
	}
	l.entries = append(l.entries, slices.Clone(entry))
	return api.OK
}

// missing reports whether a log is nil or a zero value.
func (l *Log) missing() bool {
	return l == nil || l.disk == nil
}

// write puts bytes at the end of the disk and makes them safe.
func (l *Log) write(b []byte) api.Errno {
	if err := l.disk.Append(b); err != api.OK {
		return err
	}
	return l.disk.Sync()
}

// encode returns the encoding of an entry.
func encode(entry []byte) []byte {
	b := appendNumber(nil, mark, wideMark)
	b = appendNumber(b, len(entry), wideLength)
	b = append(b, entry...)
	return appendNumber(b, int(checksum(b)), wideSum)
}

// decodeAll returns the entries whose encodings stand one behind the other from the first byte on, and how many bytes these are.
func decodeAll(b []byte) ([][]byte, int) {
	var entries [][]byte
	whole := 0
	for {
		entry, ok := decodeFirst(b[whole:])
		if !ok {
			return entries, whole
		}
		entries = append(entries, entry)
		whole += wideFront + len(entry) + wideSum
	}
}

// decodeFirst returns the entry with whose encoding b begins, if there is one.
func decodeFirst(b []byte) ([]byte, bool) {
	if len(b) < wideFront {
		return nil, false
	}
	n := number(b[wideMark:wideFront])
	if n > api.MaxEntry || len(b) < wideFront+n {
		return nil, false
	}
	entry := b[wideFront : wideFront+n]
	if !bytes.HasPrefix(b, encode(entry)) {
		return nil, false
	}
	return entry, true
}

// checksum returns the CRC-32 of bytes.
func checksum(b []byte) uint32 {
	sum := ^uint32(0)
	for _, x := range b {
		sum ^= uint32(x)
		for range 8 {
			out := sum & 1
			sum >>= 1
			if out == 1 {
				sum ^= polynomial
			}
		}
	}
	return ^sum
}

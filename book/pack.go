package book

import (
	"bytes"

	"blazon/api"
)

// The bytes of a packed record: how many there are of each field.
const (
	wideTablet = 1
	wideNumber = 4
	wideHour   = 4
	wideSign   = 4
	wideField  = 1
	wideValue  = 8
	wideSeen   = 4
	widePacked = wideTablet + wideNumber + wideHour + wideSign + wideField + wideValue + api.MaxTablets*wideSeen
)

// Pack returns a record as bytes.
func Pack(r api.Record) ([]byte, api.Errno) {
	if !Valid(r) {
		return nil, api.ErrRecord
	}
	return pack(r), api.OK
}

// Unpack returns the valid record whose Pack is b.
func Unpack(b []byte) (api.Record, api.Errno) {
	if len(b) != widePacked {
		return api.Record{}, api.ErrForm
	}
	r := unpack(b)
	// A number in eight bytes may be more than an int holds; then these are not the bytes of what was read.
	if !Valid(r) || !bytes.Equal(pack(r), b) {
		return api.Record{}, api.ErrForm
	}
	return r, api.OK
}

func pack(r api.Record) []byte {
	b := appendNumber(nil, r.Tablet, wideTablet)
	b = appendNumber(b, r.Number, wideNumber)
	b = appendNumber(b, r.Hour, wideHour)
	b = appendNumber(b, r.Sign, wideSign)
	b = appendNumber(b, r.Field, wideField)
	b = appendNumber(b, r.Value+maxValue, wideValue)
	for _, n := range r.Seen {
		b = appendNumber(b, n, wideSeen)
	}
	return b
}

// unpack returns the record in widePacked bytes, valid or not.
func unpack(b []byte) api.Record {
	next := func(wide int) int {
		n := number(b[:wide])
		b = b[wide:]
		return n
	}
	var r api.Record
	r.Tablet = next(wideTablet)
	r.Number = next(wideNumber)
	r.Hour = next(wideHour)
	r.Sign = next(wideSign)
	r.Field = next(wideField)
	r.Value = next(wideValue) - maxValue
	for t := range r.Seen {
		r.Seen[t] = next(wideSeen)
	}
	return r
}

// appendNumber appends a number in so many bytes, the most significant one first.
func appendNumber(b []byte, n, wide int) []byte {
	for k := wide - 1; k >= 0; k-- {
		b = append(b, byte(n>>(8*k)))
	}
	return b
}

// number returns the number in bytes, the most significant one first.
func number(b []byte) int {
	n := 0
	for _, x := range b {
		n = n<<8 | int(x)
	}
	return n
}

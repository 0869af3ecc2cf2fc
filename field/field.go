// Package field is layer 1: words made of fields, as shared/doc/01-field.md says.
package field

import (
	"cubicle/api"
)

// wordBits is how many bits a word has.
const wordBits = 64

// Field is a row of bits of a word: At is the place of its lowest bit, Bits is
// how many it has.
type Field struct{ At, Bits int }

// Formed tells whether the field has a bit, and lies within a word.
func (f Field) Formed() bool {
	// At is asked first, so that the difference can't wrap round.
	return f.At >= 0 && f.At < wordBits && f.Bits >= 1 && f.Bits <= wordBits-f.At
}

// Most is the greatest number that the field can have; 0 of one that isn't formed.
func (f Field) Most() uint64 {
	if !f.Formed() {
		return 0
	}
	// All ones are shifted down, since 1 shifted up by 64 would be lost.
	return ^uint64(0) >> (wordBits - f.Bits)
}

// mask has the field's bits in their places; the field must be formed, since a
// shift by a number below 0 panics.
func (f Field) mask() uint64 {
	return f.Most() << f.At
}

// Get is the field's number in w; 0 of a field that isn't formed.
func (f Field) Get(w uint64) uint64 {
	if !f.Formed() {
		return 0
	}
	return (w & f.mask()) >> f.At
}

// Put is w with v's lowest bits in the field; w as it is, if the field isn't formed.
func (f Field) Put(w, v uint64) uint64 {
	if !f.Formed() {
		return w
	}
	return (w &^ f.mask()) | ((v << f.At) & f.mask())
}

// Formed tells whether the layout's fields are all formed, and have no bit together.
func Formed(l []Field) bool {
	_, ok := cover(l)
	return ok
}

// cover is the bits that the layout's fields have, and whether it is formed.
func cover(l []Field) (uint64, bool) {
	var had uint64
	for _, f := range l {
		if !f.Formed() || had&f.mask() != 0 {
			return 0, false
		}
		had |= f.mask()
	}
	return had, true
}

// Pack is the word whose fields have these numbers, and whose other bits are 0.
// ErrArg: the layout isn't formed, there are not as many numbers as fields, or
// one is too great for its field.
func Pack(l []Field, v []uint64) (uint64, api.Errno) {
	if !Formed(l) || len(v) != len(l) {
		return 0, api.ErrArg
	}
	var w uint64
	for i, f := range l {
		if v[i] > f.Most() {
			return 0, api.ErrArg
		}
		w = f.Put(w, v[i])
	}
	return w, api.OK
}

// Split is the fields' numbers in w, in the layout's order. ErrArg: the layout
// isn't formed; ErrForm: a bit of w that no field has is 1.
func Split(l []Field, w uint64) ([]uint64, api.Errno) {
	had, ok := cover(l)
	if !ok {
		return nil, api.ErrArg
	}
	if w&^had != 0 {
		return nil, api.ErrForm
	}
	v := make([]uint64, len(l))
	for i, f := range l {
		v[i] = f.Get(w)
	}
	return v, api.OK
}

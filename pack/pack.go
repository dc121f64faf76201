// Package pack is layer 1: see shared/doc/01-pack.md.
package pack

import (
	"strings"

	"tarmac/api"
)

const (
	groupBits = 7    // bits of a number that one byte carries
	follows   = 0x80 // the bit that says that another byte follows
	mostBytes = 10   // bytes of the greatest number
	topGroup  = 1    // the greatest tenth byte: nine groups are 63 bits, one is left
)

// tally holds the bytes and not a count beside them, so that the two can't come apart.
type tally struct {
	bytes []byte
}

// Len: how many bytes.
func (t *tally) Len() int { return len(t.bytes) }

// Writer: bytes that were put.
type Writer struct {
	tally
}

// New: a writer.
func New() *Writer { return &Writer{} }

// Num: numbers more.
func (w *Writer) Num(list ...uint64) {
	for _, n := range list {
		w.putNum(n)
	}
}

// Int: whole numbers more.
func (w *Writer) Int(list ...int) {
	for _, n := range list {
		w.putNum(fold(n))
	}
}

// Text: texts more.
func (w *Writer) Text(list ...string) {
	for _, text := range list {
		w.putNum(uint64(len(text)))
		w.bytes = append(w.bytes, text...)
	}
}

// Bytes: what was put.
func (w *Writer) Bytes() string { return string(w.bytes) }

func (w *Writer) putNum(n uint64) {
	for n >= follows {
		w.bytes = append(w.bytes, byte(n)|follows)
		n >>= groupBits
	}
	w.bytes = append(w.bytes, byte(n))
}

// fold doubles ^n, which is -n - 1, where n is below 0: -n itself leaves 64 bits at the least whole number.
func fold(n int) uint64 {
	if n < 0 {
		return 2*uint64(^n) + 1
	}
	return 2 * uint64(n)
}

func unfold(n uint64) int {
	if n%2 == 1 {
		return ^int(n / 2)
	}
	return int(n / 2)
}

// Reader: bytes that are read.
type Reader struct {
	rest string // what wasn't read yet
}

// Read: a reader of the text.
func Read(text string) *Reader { return &Reader{rest: text} }

// Num: the next number.
func (r *Reader) Num() (uint64, api.Errno) {
	n, size := number(r.rest)
	if size == 0 {
		return 0, api.ErrPack
	}
	r.rest = r.rest[size:]
	return n, api.OK
}

// Int: the next whole number.
func (r *Reader) Int() (int, api.Errno) {
	n, err := r.Num()
	if err != api.OK {
		return 0, err
	}
	return unfold(n), api.OK
}

// Text: the next text.
func (r *Reader) Text() (string, api.Errno) {
	length, size := number(r.rest)
	// The lengths are held against each other as uint64: as an int the one that was read could be below 0.
	if size == 0 || length > uint64(len(r.rest)-size) {
		return "", api.ErrPack
	}
	end := size + int(length)
	text := strings.Clone(r.rest[size:end]) // a small text shouldn't hold all that it was read from
	r.rest = r.rest[end:]
	return text, api.OK
}

// Left: how many bytes are left.
func (r *Reader) Left() int { return len(r.rest) }

// Done: are none left?
func (r *Reader) Done() bool { return r.rest == "" }

// number answers the number at the text's beginning and how many bytes it has: none if no number's bytes stand there.
func number(text string) (uint64, int) {
	n := uint64(0)
	for i := range min(len(text), mostBytes) {
		group := text[i]
		n |= uint64(group&^follows) << (groupBits * i)
		if group < follows {
			if spare(i, group) || above(i, group) {
				return 0, 0
			}
			return n, i + 1
		}
	}
	return 0, 0
}

// spare: would the bytes ahead of a last byte be enough without it?
func spare(i int, last byte) bool { return i > 0 && last == 0 }

// above: does a last byte lift the number above 2^64 - 1?
func above(i int, last byte) bool { return i == mostBytes-1 && last > topGroup }

// Nums: the numbers' bytes.
func Nums(list ...uint64) string {
	w := New()
	w.Num(list...)
	return w.Bytes()
}

// Ints: the whole numbers' bytes.
func Ints(list ...int) string {
	w := New()
	w.Int(list...)
	return w.Bytes()
}

// Texts: the texts' bytes.
func Texts(list ...string) string {
	w := New()
	w.Text(list...)
	return w.Bytes()
}

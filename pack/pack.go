// Package pack is layer 1, numbers and texts as bytes of told sizes: see shared/doc/01-pack.md.
package pack

import "factotum/api"

// maxStr is the most that the one byte ahead of a text can tell.
const maxStr = 255

// width brings a number's size to one that may be.
func width(k int) int { return min(max(k, 1), 8) }

// Num is b, and behind it the low bits of n in k bytes, the highest byte first.
func Num(b []byte, n uint64, k int) []byte {
	for i := width(k) - 1; i >= 0; i-- {
		b = append(b, byte(n>>(8*i)))
	}
	return b
}

// Str is b, and behind it the text s, cut to what its length's byte can tell.
func Str(b []byte, s string) []byte {
	n := min(len(s), maxStr)
	b = append(b, byte(n))
	return append(b, s[:n]...)
}

// Fits says whether k bytes tell n whole.
func Fits(n uint64, k int) bool {
	// A shift by all 64 bits leaves 0, so that 8 bytes tell every number.
	return n>>(8*width(k)) == 0
}

// Reader goes through bytes, up to its first error.
type Reader struct {
	rest string
	err  api.Errno
}

// From is a reader at the beginning of s.
func From(s string) *Reader { return &Reader{rest: s} }

// Num is the next number of k bytes.
func (r *Reader) Num(k int) uint64 {
	var n uint64
	s := r.Raw(width(k))
	for i := range len(s) {
		n = n<<8 | uint64(s[i])
	}
	return n
}

// Str is the next text, of at most so many bytes.
func (r *Reader) Str(most int) string {
	if r.stopped() {
		return ""
	}
	if len(r.rest) == 0 {
		return r.fail(api.ErrShort)
	}
	n := int(r.rest[0])
	if n > most {
		return r.fail(api.ErrLong)
	}
	// The length's byte is gone through together with the text, so that a text that is cut off leaves the reader ahead of both.
	if n >= len(r.rest) {
		return r.fail(api.ErrShort)
	}
	return r.step(1 + n)[1:]
}

// Raw is the next k bytes.
func (r *Reader) Raw(k int) string {
	if r.stopped() || k < 0 {
		return ""
	}
	if k > len(r.rest) {
		return r.fail(api.ErrShort)
	}
	return r.step(k)
}

// Left is how many bytes are left.
func (r *Reader) Left() int {
	if r == nil {
		return 0
	}
	return len(r.rest)
}

// Err is the first error.
func (r *Reader) Err() api.Errno {
	if r == nil {
		return api.ErrArg
	}
	return r.err
}

// Done is the first error, or else ErrBytes, if bytes are left.
func (r *Reader) Done() api.Errno {
	// ErrBytes isn't kept: who asks too early may read on.
	if e := r.Err(); e != api.OK || r.Left() == 0 {
		return e
	}
	return api.ErrBytes
}

// stopped says that nothing is read any more.
func (r *Reader) stopped() bool { return r.Err() != api.OK }

// fail keeps the first error; its empty text is what the reading call answers.
func (r *Reader) fail(e api.Errno) string {
	r.err = e
	return ""
}

// step goes on by k bytes that are there.
func (r *Reader) step(k int) string {
	s := r.rest[:k]
	r.rest = r.rest[k:]
	return s
}

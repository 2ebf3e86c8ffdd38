package cache

// ring is values in a circle. A link of no value closes it: behind that one lies the first value, ahead of it the last.
type ring[T any] struct {
	seam *link[T]
}

// link is a value's place in a ring.
type link[T any] struct {
	value         T
	ahead, behind *link[T]
}

// newRing is a ring without values.
func newRing[T any]() ring[T] {
	seam := &link[T]{}
	seam.ahead, seam.behind = seam, seam
	return ring[T]{seam: seam}
}

// put makes a value the ring's first, and answers its place.
func (r ring[T]) put(value T) *link[T] {
	l := &link[T]{value: value}
	r.join(l)
	return l
}

// join makes a link that is in no ring this ring's first.
func (r ring[T]) join(l *link[T]) {
	l.ahead, l.behind = r.seam, r.seam.behind
	l.ahead.behind, l.behind.ahead = l, l
}

// leave takes a link out of its ring.
func (l *link[T]) leave() {
	l.ahead.behind, l.behind.ahead = l.behind, l.ahead
}

// last is the place of the last value. Of a ring without values it is the seam.
func (r ring[T]) last() *link[T] { return r.seam.ahead }

// each gives all places, from the first value's on, to do.
func (r ring[T]) each(do func(l *link[T])) {
	for l := r.seam.behind; l != r.seam; l = l.behind {
		do(l)
	}
}

package outbox

import (
	"slices"

	"factotum/api"
)

// Box is messages that go out, by their numbers. That of no Box at all has none.
type Box struct {
	// mark is the number up to which all are gone.
	mark int
	// left is those above the mark, without gaps: so a place tells its message's number, too.
	left []api.Message
}

// New is without messages.
func New() *Box { return &Box{} }

// Add puts in a message with the next number, and is that number.
func (b *Box) Add(flow, step int, v api.Value) (int, api.Errno) {
	if b == nil {
		return 0, api.ErrArg
	}
	m := api.Message{Seq: b.Last() + 1, Flow: flow, Step: step, V: v}
	// Whether a message may be is told by writing it.
	if _, _, e := Write(m); e != api.OK {
		return 0, e
	}
	b.left = append(b.left, m)
	return m.Seq, api.OK
}

// From is the first n messages whose numbers are above after, in order.
func (b *Box) From(after, n int) []api.Message {
	first := max(after, b.Mark()) - b.Mark()
	if first >= b.Len() || n < 1 {
		return nil
	}
	l := b.left[first:]
	return slices.Clone(l[:min(n, len(l))])
}

// Ack lets all messages up to this number go.
func (b *Box) Ack(seq int) api.Errno {
	if b == nil {
		return api.ErrArg
	}
	if seq > b.Last() {
		return api.ErrIndex
	}
	if seq > b.mark {
		b.left = behind(b.left, seq-b.mark)
		b.mark = seq
	}
	return api.OK
}

// behind is what is left of messages of which the first n go.
func behind(l []api.Message, n int) []api.Message {
	left := l[n:]
	if n < len(left) {
		// Else the texts of what goes would be kept ahead of what is left.
		clear(l[:n])
		return left
	}
	// Where few are left, they go to a place of their own: so the memory of what goes isn't kept for them.
	return append([]api.Message(nil), left...)
}

// Mark is the number up to which all are gone.
func (b *Box) Mark() int {
	if b == nil {
		return 0
	}
	return b.mark
}

// Last is the last number that was given.
func (b *Box) Last() int { return b.Mark() + b.Len() }

// Len is how many messages there are.
func (b *Box) Len() int {
	if b == nil {
		return 0
	}
	return len(b.left)
}

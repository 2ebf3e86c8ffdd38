package outbox

import (
	"testing"

	"factotum/api"
)

// TestLastNumber: behind the greatest number there is no next one. (So many calls nobody makes: so it begins at a mark close to it.)
func TestLastNumber(t *testing.T) {
	v := api.Value{Kind: api.Int, N: 1}
	b := &Box{mark: maxSeq - 1}
	if n, e := b.Add(1, 2, v); n != maxSeq || e != api.OK {
		t.Error(n, e)
	}
	for range 2 {
		if n, e := b.Add(1, 2, v); n != 0 || e != api.ErrField || b.Last() != maxSeq || b.Len() != 1 {
			t.Error(n, e, b.Last(), b.Len())
		}
	}
	if l := b.From(maxSeq-1, 2); len(l) != 1 || l[0] != (api.Message{Seq: maxSeq, Flow: 1, Step: 2, V: v}) {
		t.Error(l)
	}
	if b.Ack(maxSeq+1) != api.ErrIndex || b.Ack(maxSeq) != api.OK || b.Mark() != maxSeq || b.Len() != 0 {
		t.Error(b.Mark(), b.Len())
	}
	if n, e := b.Add(1, 2, v); n != 0 || e != api.ErrField {
		t.Error(n, e)
	}
}

// TestGoneIsntKept: a box keeps no message that is gone, and not much more memory than those that are there need.
func TestGoneIsntKept(t *testing.T) {
	const many = 64
	for seq := range many + 1 {
		b := New()
		for range many {
			b.Add(1, 2, api.Value{Kind: api.Text, S: "hi"})
		}
		whole := b.left
		b.Ack(seq)
		if seq < many/2 {
			for k, m := range whole {
				if (m == api.Message{}) != (k < seq) {
					t.Errorf("Ack of %d: %v is left at %d", seq, m, k)
				}
			}
		}
		if room := cap(b.left); seq >= many/2 && room > 2*len(b.left) {
			t.Errorf("Ack of %d: room for %d, where %d are left", seq, room, len(b.left))
		}
	}
}

package code

import (
	"factotum/api"
	"factotum/pack"
)

// reader reads instructions. Beside the error of the reader that it embeds it has one of its own, since bytes that are there may be nothing's.
type reader struct {
	*pack.Reader
	wrong api.Errno
}

// Err is the first error of both.
func (r *reader) Err() api.Errno {
	if r.wrong != api.OK {
		return r.wrong
	}
	return r.Reader.Err()
}

// refuse keeps that bytes are no Op's and no kind's.
func (r *reader) refuse() {
	// Where bytes have ended, what was read is a 0 that isn't there, and no fault of its own.
	if r.Err() == api.OK {
		r.wrong = api.ErrField
	}
}

// inst is the next instruction; whether it was there, Err tells.
func (r *reader) inst() api.Inst {
	op := int(r.Num(byteSize))
	n, there := Operands(op)
	if !there {
		r.refuse()
		return api.Inst{}
	}
	var o [3]int
	for k := range n {
		o[k] = int(r.Num(byteSize))
	}
	i := api.Inst{Op: op, A: o[0], B: o[1], C: o[2]}
	if op == api.Const {
		i.V = r.value()
	}
	return i
}

// value is the next value; whether it was there, Err tells.
func (r *reader) value() api.Value {
	switch k := api.Kind(r.Num(byteSize)); k {
	case api.Int:
		return api.Value{Kind: k, N: int64(r.Num(numSize))}
	case api.Text:
		return api.Value{Kind: k, S: r.Str(api.MaxText)}
	}
	r.refuse()
	return api.Value{}
}

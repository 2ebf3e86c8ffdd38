package machine

import (
	"slices"

	"factotum/api"
	"factotum/keys"
)

// What a step may do at most, beside MaxOut.
const (
	maxPuts  = 8
	maxKids  = 2
	maxSleep = 1000000
)

// step is a step under way: where it goes on, its registers, and what it did so far.
type step struct {
	table   Looker
	pc      int
	regs    []api.Value
	effects api.Effects
	ended   bool
}

// deeds is what is done by each Op, by the Ops' numbers; each says whether it may be. A step that asks for what may not be is thrown away whole, so that nobody minds what a deed left then.
func deeds() []func(s *step, i api.Inst) bool {
	return []func(s *step, i api.Inst) bool{
		api.Const:  (*step).constant,
		api.Move:   (*step).move,
		api.Add:    (*step).add,
		api.Sub:    (*step).sub,
		api.Mul:    (*step).mul,
		api.Cat:    (*step).cat,
		api.Less:   (*step).less,
		api.Same:   (*step).same,
		api.Jump:   (*step).jump,
		api.Unless: (*step).unless,
		api.Load:   (*step).load,
		api.Store:  (*step).store,
		api.Drop:   (*step).drop,
		api.Emit:   (*step).emit,
		api.Sleep:  (*step).sleep,
		api.Child:  (*step).child,
		api.Step:   (*step).goes,
		api.Done:   (*step).done,
		api.Fail:   (*step).fail,
	}
}

func (s *step) constant(i api.Inst) bool {
	s.regs[i.A] = i.V
	return true
}

func (s *step) move(i api.Inst) bool {
	s.regs[i.A] = s.regs[i.B]
	return true
}

func (s *step) add(i api.Inst) bool {
	return s.reckon(i, func(b, c int64) int64 { return b + c })
}

func (s *step) sub(i api.Inst) bool {
	return s.reckon(i, func(b, c int64) int64 { return b - c })
}

func (s *step) mul(i api.Inst) bool {
	return s.reckon(i, func(b, c int64) int64 { return b * c })
}

// reckon sets register A to what comes of two numbers.
func (s *step) reckon(i api.Inst, f func(b, c int64) int64) bool {
	if !s.both(i, api.Int) {
		return false
	}
	s.regs[i.A] = number(f(s.regs[i.B].N, s.regs[i.C].N))
	return true
}

// both says whether registers B and C are of a kind.
func (s *step) both(i api.Inst, k api.Kind) bool {
	return s.regs[i.B].Kind == k && s.regs[i.C].Kind == k
}

func (s *step) cat(i api.Inst) bool {
	if !s.both(i, api.Text) {
		return false
	}
	v := api.Value{Kind: api.Text, S: s.regs[i.B].S + s.regs[i.C].S}
	s.regs[i.A] = v
	return len(v.S) <= api.MaxText
}

func (s *step) less(i api.Inst) bool {
	b, c := s.regs[i.B:i.B+1], s.regs[i.C:i.C+1]
	return s.answer(i, keys.Compare(b, c) < 0)
}

func (s *step) same(i api.Inst) bool {
	return s.answer(i, s.regs[i.B] == s.regs[i.C])
}

// answer sets register A to 1 for yes, and to 0 for no.
func (s *step) answer(i api.Inst, yes bool) bool {
	s.regs[i.A] = number(0)
	if yes {
		s.regs[i.A] = number(1)
	}
	return true
}

func (s *step) jump(i api.Inst) bool {
	s.pc = i.A
	return true
}

func (s *step) unless(i api.Inst) bool {
	if s.regs[i.B] == number(0) {
		s.pc = i.A
	}
	return true
}

func (s *step) load(i api.Inst) bool {
	v, there := s.look(s.regs[i.B])
	if !there {
		v = number(0)
	}
	s.regs[i.A] = v
	return mayBe(v)
}

// look is what a key has by now, and whether it has something.
func (s *step) look(k api.Value) (api.Value, bool) {
	if n := s.named(k); n >= 0 {
		return behind(s.effects.Puts[n])
	}
	return ask(s.table, k)
}

// named is the place of a key among those that this step did something to; -1: it isn't there.
func (s *step) named(k api.Value) int {
	return slices.IndexFunc(s.effects.Puts, func(w api.Write) bool { return w.Key == k })
}

// ask is what a table has of a key, and whether it has something.
func ask(t Looker, k api.Value) (v api.Value, there bool) {
	defer func() {
		// A table that can't be asked, such as a nil pointer to one, has nothing either.
		if recover() != nil {
			v, there = api.Value{}, false
		}
	}()
	if t == nil {
		return api.Value{}, false
	}
	return t.Look(k)
}

func (s *step) store(i api.Inst) bool {
	return s.put(api.Write{Key: s.regs[i.A], Value: s.regs[i.B]})
}

func (s *step) drop(i api.Inst) bool {
	return s.put(api.Write{Key: s.regs[i.A], Gone: true})
}

// put does something to a key, in the place where it was first named.
func (s *step) put(w api.Write) bool {
	if n := s.named(w.Key); n >= 0 {
		s.effects.Puts[n] = w
		return true
	}
	s.effects.Puts = append(s.effects.Puts, w)
	return len(s.effects.Puts) <= maxPuts
}

func (s *step) emit(i api.Inst) bool {
	s.effects.Outs = append(s.effects.Outs, s.regs[i.A])
	return len(s.effects.Outs) <= api.MaxOut
}

func (s *step) sleep(i api.Inst) bool {
	v := s.regs[i.A]
	s.effects.Sleep = v.N
	return v.Kind == api.Int && v.N >= 0 && v.N <= maxSleep
}

func (s *step) child(i api.Inst) bool {
	s.effects.Kids = append(s.effects.Kids, api.Spawn{Program: i.A, Arg: s.regs[i.B], Key: s.regs[i.C]})
	return len(s.effects.Kids) <= maxKids
}

func (s *step) goes(_ api.Inst) bool {
	s.end(api.Goes)
	s.effects.Frame = api.Frame{Pc: s.pc, Regs: s.regs}
	return true
}

func (s *step) done(i api.Inst) bool {
	s.end(api.Well)
	s.effects.Value = s.regs[i.A]
	return true
}

func (s *step) fail(i api.Inst) bool {
	s.end(api.Badly)
	s.effects.Value = s.regs[i.A]
	return true
}

// end says in which way the step ends.
func (s *step) end(way int) {
	s.ended = true
	s.effects.End = way
}

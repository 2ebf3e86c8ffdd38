package check

import (
	"factotum/api"
	"factotum/code"
)

// rule is what each instruction of a program has to keep, and the error where one doesn't.
type rule struct {
	err  api.Errno
	kept func(l []api.Inst, k int) bool
}

// rules is all of them, the one that is told ahead of others first: each may rely on those above it.
func rules() []rule {
	return []rule{
		{err: api.ErrLong, kept: hasRoom},
		{err: api.ErrField, kept: mayBe},
		{err: api.ErrKind, kept: hasRegisters},
		{err: api.ErrIndex, kept: hasTarget},
		{err: api.ErrState, kept: staysInside},
	}
}

// fault is the number of the first instruction that breaks the rule, and whether there is one.
func (r rule) fault(l []api.Inst) (int, bool) {
	for k := range l {
		if !r.kept(l, k) {
			return k, true
		}
	}
	return 0, false
}

// hasRoom says whether a program may be so long that it has a k-th instruction.
func hasRoom(_ []api.Inst, k int) bool { return k < api.MaxCode }

// mayBe says whether an instruction may be, by layer 13, which writes no other one.
func mayBe(l []api.Inst, k int) bool {
	_, e := code.Write(l[k : k+1])
	return e == api.OK
}

// hasRegisters says whether there are all registers that an instruction names.
func hasRegisters(l []api.Inst, k int) bool {
	for _, r := range Registers(l[k]) {
		if r >= api.Regs {
			return false
		}
	}
	return true
}

// hasTarget says whether there is the instruction to go on at, if one is named.
func hasTarget(l []api.Inst, k int) bool {
	n, there := Target(l[k])
	return !there || n < len(l)
}

// staysInside says whether an instruction doesn't run out of the program's end.
func staysInside(l []api.Inst, k int) bool {
	return k < len(l)-1 || leaves(l[k].Op)
}

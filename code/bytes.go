package code

import (
	"posthorse/api"
	"posthorse/le"
)

// Where in an instruction's bytes its parts begin, and how many bytes it has.
const (
	atOp     = 0
	atD      = 1
	atS      = 2
	atNought = 3
	atImm    = 4
	size     = 8
)

// Put: a program as bytes.
func Put(l []Ins) (string, error) {
	if len(l) > api.MaxCode {
		return "", api.ErrLong
	}
	var o le.Out
	for _, x := range l {
		if !Right(x) {
			return "", api.ErrArg
		}
		o.Num(x.Op, 1)
		o.Num(x.D, 1)
		o.Num(x.S, 1)
		o.Num(0, 1)
		o.Num(x.Imm+halfImms, size-atImm)
	}
	return o.String()
}

// Get the program of bytes.
func Get(s string) ([]Ins, error) {
	if !rightForm(s) {
		return nil, api.ErrForm
	}
	if len(s) > api.MaxCode*size {
		return nil, api.ErrLong
	}
	var l []Ins
	for ; s != ""; s = s[size:] {
		x := ins(s[:size])
		if !Right(x) {
			return nil, api.ErrReject
		}
		l = append(l, x)
	}
	return l, nil
}

// rightForm: are they bytes of instructions, whatever these are?
func rightForm(s string) bool {
	for i := atNought; i < len(s); i += size {
		if s[i] != 0 {
			return false
		}
	}
	return len(s)%size == 0
}

// ins: the instruction of its bytes.
func ins(s string) Ins {
	return Ins{Op: int(s[atOp]), D: int(s[atD]), S: int(s[atS]), Imm: le.Get(s[atImm:]) - halfImms}
}

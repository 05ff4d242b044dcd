package check

import (
	"posthorse/api"
	"posthorse/code"
	"posthorse/frame"
	"posthorse/span"
)

// What bytes, and the answer of helper Compare, may be.
const (
	mostOfOne = 255
	mostOfTwo = 65535
	below     = -1
	above     = 1
)

// state is what is known ahead of an instruction: is it ever come to, which registers have numbers, and in which spans these are.
type state struct {
	come  bool
	known [code.Registers]bool
	spans [code.Registers]span.Span
}

// put a number of a span into a register.
func (s *state) put(r int, a span.Span) { s.known[r], s.spans[r] = true, a }

// have: do all of these registers have numbers?
func (s *state) have(registers ...int) bool {
	for _, r := range registers {
		if !s.known[r] {
			return false
		}
	}
	return true
}

// within: has a register a number, and are there so many bytes from off behind that on, of bound in all?
func (s *state) within(r, off, size, bound int) bool {
	return s.have(r) && span.Within(s.spans[r], off, size, bound)
}

// suffices: is what an instruction needs so?
func (s *state) suffices(x code.Ins) bool {
	size := 1
	switch x.Op {
	case code.Move:
		return s.have(x.S)
	case code.AddI, code.MulI, code.Clamp:
		return s.have(x.D)
	case code.Add, code.Sub, code.JumpEq, code.JumpNe, code.JumpLt, code.JumpLe:
		return s.have(x.D, x.S)
	case code.Load2:
		size = 2
		fallthrough // a look at two bytes is a look, too
	case code.Load:
		return s.within(x.S, x.Imm, size, api.Sector)
	case code.LoadK:
		return s.within(x.S, x.Imm, size, api.MaxKey)
	case code.LoadS:
		return s.within(x.S, x.Imm, size, api.MaxScratch)
	case code.StoreS:
		return s.have(x.S) && s.within(x.D, x.Imm, size, api.MaxScratch)
	case code.Call:
		return s.helps(x.Imm)
	case code.Exit:
		return s.have(frame.Result)
	}
	return true
}

// helps: is what a helper needs so?
func (s *state) helps(helper int) bool {
	if helper == frame.Next {
		return s.have(frame.At)
	}
	return s.within(frame.Count, 0, 0, frame.Most(helper)) &&
		s.within(frame.At, 0, s.spans[frame.Count].Hi, api.Sector)
}

// do an instruction whose needs are met: the register that it writes has its number then.
func (s *state) do(x code.Ins) {
	if r, ok := writes(x); ok {
		s.put(r, s.makes(x))
	}
}

// writes: the register that an instruction writes, if it writes one.
func writes(x code.Ins) (int, bool) {
	if x.Op <= code.LoadS {
		return x.D, true
	}
	if x.Op == code.Call && x.Imm == frame.Compare {
		return frame.Result, true
	}
	return 0, false
}

// makes: the span of what an instruction writes.
func (s *state) makes(x code.Ins) span.Span {
	d, other := s.spans[x.D], s.spans[x.S]
	switch x.Op {
	case code.Set:
		return span.One(x.Imm)
	case code.Move:
		return other
	case code.Add:
		return span.Add(d, other)
	case code.Sub:
		return span.Sub(d, other)
	case code.AddI:
		return span.Add(d, span.One(x.Imm))
	case code.MulI:
		return span.Mul(d, x.Imm)
	case code.Clamp:
		return span.Clamp(d, x.Imm)
	case code.Load2:
		return span.Span{Lo: 0, Hi: mostOfTwo}
	case code.Load, code.LoadK, code.LoadS:
		return span.Span{Lo: 0, Hi: mostOfOne}
	}
	return span.Span{Lo: below, Hi: above}
}

// widen what is known behind a Loop: its body is done again with what it wrote itself.
func (s *state) widen(body []code.Ins) {
	for _, x := range body {
		if r, ok := writes(x); ok && s.known[r] {
			s.spans[r] = span.Top()
		}
	}
}

// join what is known by another way to the same instruction.
func (s *state) join(by state) {
	if !s.come {
		*s = by
		return
	}
	for r := range s.known {
		if s.known[r] && by.known[r] {
			s.spans[r] = span.Join(s.spans[r], by.spans[r])
		} else {
			s.known[r], s.spans[r] = false, span.Span{}
		}
	}
}

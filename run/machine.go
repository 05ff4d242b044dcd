package run

import (
	"strings"

	"posthorse/api"
	"posthorse/code"
	"posthorse/frame"
	"posthorse/le"
	"posthorse/span"
)

// machine of a run under way.
type machine struct {
	program   []code.Ins
	ends      []int // of the Loops
	page, key string
	keyBytes  [api.MaxKey]byte // the key, with noughts behind
	scratch   *Scratch
	registers [code.Registers]int
	at        int    // the instruction that comes next
	loops     []loop // those that began and aren't over, the last one last
	ended     bool
	result    Result
}

// loop that began at an instruction; how often its body is done from now on, the time under way too.
type loop struct {
	at, left int
}

// begin ahead of the first instruction.
func begin(l []code.Ins, page, key string, s *Scratch) *machine {
	m := &machine{program: l, ends: frame.Ends(l), page: page, key: key, scratch: s}
	copy(m.keyBytes[:], key)
	m.registers[frame.KeyLen] = len(key)
	return m
}

// step: the next instruction is done, if it may be.
func (m *machine) step() bool {
	x := m.program[m.at]
	if !code.Right(x) {
		return false
	}
	m.at++ // a jump and an End say otherwise
	switch x.Op {
	case code.Load, code.Load2, code.LoadK, code.LoadS:
		return m.load(x)
	case code.StoreS:
		return m.store(x)
	case code.Jump, code.JumpEq, code.JumpNe, code.JumpLt, code.JumpLe:
		return !m.holds(x) || m.jump(x.Imm)
	case code.Loop:
		return m.beginLoop(x.Imm)
	case code.End:
		return m.endLoop()
	case code.Call:
		return m.help(x.Imm)
	case code.Exit:
		m.ended, m.result.Code = true, m.registers[frame.Result]
		return true
	}
	m.registers[x.D] = m.reckon(x)
	return true
}

// reckon: what an instruction that looks at registers alone comes to. Layer 18 reckons, since a product may be beyond every int.
func (m *machine) reckon(x code.Ins) int {
	d, s := m.registers[x.D], m.registers[x.S]
	switch x.Op {
	case code.Move:
		return s
	case code.Add:
		return span.Cap(d + s)
	case code.Sub:
		return span.Cap(d - s)
	case code.AddI:
		return span.Cap(d + x.Imm)
	case code.MulI:
		return span.Mul(span.One(d), x.Imm).Lo
	case code.Clamp:
		return span.Clamp(span.One(d), x.Imm).Lo
	}
	return x.Imm
}

// load bytes into a register, if there are such.
func (m *machine) load(x code.Ins) bool {
	at, size := m.registers[x.S]+x.Imm, 1
	switch x.Op {
	case code.Load2:
		size = 2
		fallthrough // a look at two bytes is a look, too
	case code.Load:
		if !are(at, size, len(m.page)) {
			return false
		}
		m.registers[x.D] = le.Get(m.page[at : at+size])
	case code.LoadK:
		if !are(at, size, len(m.keyBytes)) {
			return false
		}
		m.registers[x.D] = int(m.keyBytes[at])
	case code.LoadS:
		if !are(at, size, len(m.scratch)) {
			return false
		}
		m.registers[x.D] = int(m.scratch[at])
	}
	return true
}

// store a byte into the scratch, if there is such a one.
func (m *machine) store(x code.Ins) bool {
	at := m.registers[x.D] + x.Imm
	if !are(at, 1, len(m.scratch)) {
		return false
	}
	m.scratch[at] = byte(m.registers[x.S])
	return true
}

// are there n bytes from a place on, of so many in all?
func are(at, n, all int) bool { return at >= 0 && n >= 0 && at <= all-n }

// holds: is what a jump asks for so?
func (m *machine) holds(x code.Ins) bool {
	d, s := m.registers[x.D], m.registers[x.S]
	switch x.Op {
	case code.JumpEq:
		return d == s
	case code.JumpNe:
		return d != s
	case code.JumpLt:
		return d < s
	case code.JumpLe:
		return d <= s
	}
	return true
}

// jump to a place, if it is there, and above the jump's own: loops in whose bodies it isn't are over. That a Loop stands ahead of the place needn't be asked: it stands ahead of the jump.
func (m *machine) jump(to int) bool {
	if to < m.at || to >= len(m.program) {
		return false
	}
	m.at = to
	for len(m.loops) > 0 && m.ends[m.last().at] < to {
		m.leaveLoop()
	}
	return true
}

// beginLoop: the body behind is done so many times, if not too many loops are under way.
func (m *machine) beginLoop(times int) bool {
	if len(m.loops) == frame.Nested {
		return false
	}
	m.loops = append(m.loops, loop{at: m.at - 1, left: times})
	return true
}

// endLoop: the last loop's body was done once more, if there is a loop.
func (m *machine) endLoop() bool {
	if len(m.loops) == 0 {
		return false
	}
	last := m.last()
	last.left--
	if last.left > 0 {
		m.at = last.at + 1
	} else {
		m.leaveLoop()
	}
	return true
}

// last of the loops that aren't over.
func (m *machine) last() *loop { return &m.loops[len(m.loops)-1] }

// leaveLoop: the last one is over.
func (m *machine) leaveLoop() { m.loops = m.loops[:len(m.loops)-1] }

// help: a helper is called, if there are the bytes at which it looks.
func (m *machine) help(helper int) bool {
	at := m.registers[frame.At]
	if helper == frame.Next {
		m.result.Next = at
		return true
	}
	n := m.registers[frame.Count]
	if n > frame.Most(helper) || !are(at, n, len(m.page)) {
		return false
	}
	bytes := m.page[at : at+n]
	if helper == frame.Compare {
		m.registers[frame.Result] = strings.Compare(m.key, bytes)
	} else {
		m.result.Value = bytes
	}
	return true
}

package asm

import (
	"strconv"
	"strings"

	"posthorse/api"
	"posthorse/code"
)

// Bounds of what is read: bytes of a name, and how far from 0 a number may be.
const (
	longestName = 8
	farthest    = 1 << 53
)

// reader of a program's lines.
type reader struct {
	program []code.Ins
	places  map[string]int // by their names
	jumps   []jump
}

// jump that is read, whose Imm isn't known as yet: the name may come behind it.
type jump struct {
	at, line int
	name     string
}

// Parse the text of a program: the line that is wrong, from 1 on.
func Parse(s string) ([]code.Ins, int, error) {
	r := reader{places: map[string]int{}}
	for line := 1; s != ""; line++ {
		text, behind, whole := strings.Cut(s, newline)
		if !whole {
			return nil, line, api.ErrForm
		}
		if err := r.take(text, line); err != nil {
			return nil, line, err
		}
		s = behind
	}
	if line, err := r.settle(); err != nil {
		return nil, line, err
	}
	return r.program, 0, nil
}

// take a line.
func (r *reader) take(text string, line int) error {
	if name, ok := strings.CutSuffix(text, colon); ok {
		return r.name(name)
	}
	x, to, ok := instruction(text)
	if !ok {
		return api.ErrForm
	}
	if !code.Right(x) {
		return api.ErrReject
	}
	at := len(r.program)
	if at == api.MaxCode {
		return api.ErrLong
	}
	if code.Jumps(x.Op) {
		r.jumps = append(r.jumps, jump{at: at, line: line, name: to})
	}
	r.program = append(r.program, x)
	return nil
}

// name the place of the instruction that comes next.
func (r *reader) name(name string) error {
	if !isName(name) {
		return api.ErrForm
	}
	if _, ok := r.places[name]; ok {
		return api.ErrExists
	}
	r.places[name] = len(r.program)
	return nil
}

// settle where the jumps go, when all lines are read: the line of one that can't be settled. A name that there isn't is told of ahead of a place that may not be, wherever the two are.
func (r *reader) settle() (int, error) {
	for _, j := range r.jumps {
		if _, ok := r.places[j.name]; !ok {
			return j.line, api.ErrNone
		}
	}
	for _, j := range r.jumps {
		r.program[j.at].Imm = r.places[j.name]
		if !code.Right(r.program[j.at]) {
			return j.line, api.ErrReject
		}
	}
	return 0, nil
}

// instruction of a line's words, be it right or not, and the name that stands in the place of its Imm.
func instruction(line string) (code.Ins, string, bool) {
	more := true
	next := func() string { // where no word is left it is empty, as no word may be
		var word string
		if more {
			word, line, more = strings.Cut(line, blank)
		}
		return word
	}
	op, ok := operation(next())
	if !ok {
		return code.Ins{}, "", false
	}
	x, name := code.Ins{Op: op}, ""
	for _, part := range forms[op].parts {
		word := next()
		switch part {
		case partD:
			x.D, ok = register(word)
		case partS:
			x.S, ok = register(word)
		case partImm:
			x.Imm, ok = number(word)
		case partPlace:
			name, ok = word, isName(word)
		}
		if !ok {
			return code.Ins{}, "", false
		}
	}
	return x, name, !more
}

// operation of a word.
func operation(word string) (int, bool) {
	for op := range forms {
		if forms[op].word == word {
			return op, true
		}
	}
	return 0, false
}

// register of a word.
func register(word string) (int, bool) {
	digits, ok := strings.CutPrefix(word, registerMark)
	if !ok {
		return 0, false
	}
	n, ok := number(digits)
	return n, ok && n >= 0 && n < code.Registers
}

// number of a word: the one way to write it, and not too far from 0.
func number(word string) (int, bool) {
	n, err := strconv.Atoi(word)
	return n, err == nil && strconv.Itoa(n) == word && n >= -farthest && n <= farthest
}

// isName: may it name a place?
func isName(s string) bool {
	if s == "" || len(s) > longestName || !isLetter(s[0]) {
		return false
	}
	for i := range len(s) {
		if !isLetter(s[i]) && !isDigit(s[i]) {
			return false
		}
	}
	return true
}

func isLetter(c byte) bool { return c >= 'a' && c <= 'z' }

func isDigit(c byte) bool { return c >= '0' && c <= '9' }

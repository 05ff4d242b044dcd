package check_test

import (
	"testing"

	"posthorse/check"
	"posthorse/code"
	"posthorse/span"
)

// Instructions, short to write.
func set(d, n int) code.Ins            { return code.Ins{Op: code.Set, D: d, Imm: n} }
func of(op, d, s int) code.Ins         { return code.Ins{Op: op, D: d, S: s} }
func with(op, d, n int) code.Ins       { return code.Ins{Op: op, D: d, Imm: n} }
func look(op, d, s, off int) code.Ins  { return code.Ins{Op: op, D: d, S: s, Imm: off} }
func store(d, s, off int) code.Ins     { return code.Ins{Op: code.StoreS, D: d, S: s, Imm: off} }
func jump(to int) code.Ins             { return code.Ins{Op: code.Jump, Imm: to} }
func branch(op, d, s, to int) code.Ins { return code.Ins{Op: op, D: d, S: s, Imm: to} }
func loop(times int) code.Ins          { return code.Ins{Op: code.Loop, Imm: times} }
func end() code.Ins                    { return code.Ins{Op: code.End} }
func call(helper int) code.Ins         { return code.Ins{Op: code.Call, Imm: helper} }
func exit() code.Ins                   { return code.Ins{Op: code.Exit} }
func program(l ...code.Ins) []code.Ins { return l }

// chain programs into one.
func chain(l ...[]code.Ins) (p []code.Ins) {
	for _, part := range l {
		p = append(p, part...)
	}
	return p
}

// times: so many of an instruction.
func times(n int, x code.Ins) (l []code.Ins) {
	for range n {
		l = append(l, x)
	}
	return l
}

// passes: may the program be run? Its verdict.
func passes(t *testing.T, l []code.Ins) check.Verdict {
	t.Helper()
	v, at, err := check.Program(l)
	if at != 0 || err != nil || len(v.Known) != len(l) || len(v.Spans) != len(l) {
		t.Fatalf("%v: %+v, %d, %v", l, v, at, err)
	}
	return v
}

// fails: is that the answer, and no verdict?
func fails(t *testing.T, l []code.Ins, wantAt int, want error) {
	t.Helper()
	v, at, err := check.Program(l)
	if at != wantAt || err != want {
		t.Errorf("%v: %d, %v, want %d, %v", l, at, err, wantAt, want)
	}
	if v.Fuel != 0 || len(v.Known) != 0 || len(v.Spans) != 0 {
		t.Errorf("%v: %+v beside an error", l, v)
	}
}

// to: the span from one number to another.
func to(lo, hi int) span.Span { return span.Span{Lo: lo, Hi: hi} }

// facts that are known: of registers the spans.
type facts map[int]span.Span

// knows: are just these facts known ahead of an instruction, and that register 1 is from 0 to MaxKey, where nothing else is told of it?
func knows(t *testing.T, v check.Verdict, at int, l facts) {
	t.Helper()
	known, spans := [8]bool{1: true}, [8]span.Span{1: to(0, 16)}
	for r, a := range l {
		known[r], spans[r] = true, a
	}
	if v.Known[at] != known || v.Spans[at] != spans {
		t.Errorf("ahead of %d: %v, %v, want %v, %v", at, v.Known[at], v.Spans[at], known, spans)
	}
}

// knowsNothing: is the instruction never come to?
func knowsNothing(t *testing.T, v check.Verdict, at int) {
	t.Helper()
	if v.Known[at] != [8]bool{} || v.Spans[at] != [8]span.Span{} {
		t.Errorf("ahead of %d: %v, %v", at, v.Known[at], v.Spans[at])
	}
}

package run_test

import (
	"slices"
	"strings"
	"testing"

	"posthorse/code"
	"posthorse/run"
)

// Instructions, short to write.
func set(d, n int) code.Ins            { return code.Ins{Op: code.Set, D: d, Imm: n} }
func of(op, d, s int) code.Ins         { return code.Ins{Op: op, D: d, S: s} }
func with(op, d, n int) code.Ins       { return code.Ins{Op: op, D: d, Imm: n} }
func look(op, d, s, off int) code.Ins  { return code.Ins{Op: op, D: d, S: s, Imm: off} }
func store(d, s, off int) code.Ins     { return code.Ins{Op: code.StoreS, D: d, S: s, Imm: off} }
func jump(to int) code.Ins             { return code.Ins{Op: code.Jump, Imm: to} }
func branch(op, d, s, to int) code.Ins { return code.Ins{Op: op, D: d, S: s, Imm: to} }
func loop(times int) code.Ins          { return code.Ins{Op: code.Loop, Imm: times} }
func end() code.Ins                    { return code.Ins{Op: code.End} }
func call(helper int) code.Ins         { return code.Ins{Op: code.Call, Imm: helper} }
func exit() code.Ins                   { return code.Ins{Op: code.Exit} }
func program(l ...code.Ins) []code.Ins { return l }

// chain programs into one.
func chain(l ...[]code.Ins) (p []code.Ins) {
	for _, part := range l {
		p = append(p, part...)
	}
	return p
}

// times: so many of an instruction.
func times(n int, x code.Ins) (l []code.Ins) {
	for range n {
		l = append(l, x)
	}
	return l
}

// much fuel.
const much = 1 << 30

// page of bytes that tell their places: that at i is i mod 251.
func page() string {
	var b strings.Builder
	for i := range 512 {
		b.WriteByte(byte(i % 251))
	}
	return b.String()
}

// ends: does a run on the page, for the key "key", end so?
func ends(t *testing.T, l []code.Ins, want run.Result) {
	t.Helper()
	var s run.Scratch
	goes(t, l, "key", &s, much, want, nil)
}

// breaks: does a run end with that error behind so many steps, and tell nothing else?
func breaks(t *testing.T, l []code.Ins, fuel, steps int, want error) {
	t.Helper()
	var s run.Scratch
	goes(t, l, "key", &s, fuel, run.Result{Steps: steps}, want)
}

func goes(t *testing.T, l []code.Ins, key string, s *run.Scratch, fuel int, want run.Result, wantErr error) {
	t.Helper()
	was := slices.Clone(l)
	got, err := run.Program(l, page(), key, s, fuel)
	if got != want || err != wantErr {
		t.Errorf("%v with %d: %+v, %v, want %+v, %v", l, fuel, got, err, want, wantErr)
	}
	if !slices.Equal(l, was) {
		t.Errorf("changed %v to %v", was, l)
	}
}

// comes: is that in register 0 at the end of these?
func comes(t *testing.T, want int, l ...code.Ins) {
	t.Helper()
	var s run.Scratch
	got, err := run.Program(chain(l, program(exit())), page(), "key", &s, much)
	if got.Code != want || got.Steps != len(l)+1 || err != nil {
		t.Errorf("%v: %+v, %v, want %d", l, got, err, want)
	}
}

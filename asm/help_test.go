package asm_test

import (
	"slices"
	"strings"
	"testing"

	"posthorse/asm"
	"posthorse/code"
)

// parses: is that the program of the text?
func parses(t *testing.T, s string, want []code.Ins) {
	t.Helper()
	l, at, err := asm.Parse(s)
	if !slices.Equal(l, want) || at != 0 || err != nil {
		t.Errorf("Parse(%.60q) = %v, %d, %v, want %v", s, l, at, err, want)
	}
}

// wrong: is the text wrong at that line, and is no program answered?
func wrong(t *testing.T, s string, wantAt int, want error) {
	t.Helper()
	l, at, err := asm.Parse(s)
	if len(l) != 0 || at != wantAt || err != want {
		t.Errorf("Parse(%.60q) of %d bytes = %v, %d, %v, want %d, %v", s, len(s), l, at, err, wantAt, want)
	}
}

// wrongLine: is a line wrong, be it the first one, or behind others, whatever comes behind it?
func wrongLine(t *testing.T, line string, want error) {
	t.Helper()
	wrong(t, line+"\n", 1, want)
	wrong(t, "x1:\nset r0 2\n"+line+"\nexit\n", 3, want)
	wrong(t, "set r0 2\n"+line+"\nSET\nloop 0\n", 2, want)
	wrong(t, line+"\njump nowhere\n"+line+"\n", 1, want)
}

// tells: is that the program's text? It is the program's again.
func tells(t *testing.T, l []code.Ins, want string) {
	t.Helper()
	was := slices.Clone(l)
	s, err := asm.Text(l)
	if s != want || err != nil {
		t.Errorf("Text(%v) = %q, %v, want %q", l, s, err, want)
	}
	if !slices.Equal(l, was) {
		t.Errorf("Text changed %v to %v", was, l)
	}
	parses(t, want, l)
}

// refuses: is that Text's error, and no text beside it?
func refuses(t *testing.T, l []code.Ins, want error) {
	t.Helper()
	if s, err := asm.Text(l); s != "" || err != want {
		t.Errorf("Text(%v) = %.60q, %v, want %v", l, s, err, want)
	}
}

// exits: so many instructions, and their lines.
func exits(n int) ([]code.Ins, string) {
	l := make([]code.Ins, n)
	for i := range l {
		l[i].Op = code.Exit
	}
	return l, strings.Repeat("exit\n", n)
}

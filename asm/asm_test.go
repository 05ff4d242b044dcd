package asm_test

import (
	"math"
	"slices"
	"strconv"
	"testing"

	"posthorse/api"
	"posthorse/asm"
	"posthorse/code"
)

// P21.1, P21.2: the document's example.
func TestExample(t *testing.T) {
	tells(t, []code.Ins{{Op: code.Set, Imm: 2}, {Op: code.Exit}}, "set r0 2\nexit\n")
}

// P21.1, P21.2: the words of each operation; of the jumps all to the place 1, behind them.
func TestWords(t *testing.T) {
	for _, c := range []struct {
		line string
		x    code.Ins
	}{
		{"set r3 5", code.Ins{Op: 0, D: 3, Imm: 5}},
		{"set r0 -2147483648", code.Ins{Op: 0, Imm: -1 << 31}},
		{"move r1 r7", code.Ins{Op: 1, D: 1, S: 7}},
		{"add r2 r6", code.Ins{Op: 2, D: 2, S: 6}},
		{"sub r7 r0", code.Ins{Op: 3, D: 7}},
		{"addi r4 2147483647", code.Ins{Op: 4, D: 4, Imm: 1<<31 - 1}},
		{"muli r5 -1", code.Ins{Op: 5, D: 5, Imm: -1}},
		{"clamp r6 0", code.Ins{Op: 6, D: 6}},
		{"load r1 r2 -10", code.Ins{Op: 7, D: 1, S: 2, Imm: -10}},
		{"load2 r2 r1 100", code.Ins{Op: 8, D: 2, S: 1, Imm: 100}},
		{"loadk r3 r4 15", code.Ins{Op: 9, D: 3, S: 4, Imm: 15}},
		{"loads r4 r3 63", code.Ins{Op: 10, D: 4, S: 3, Imm: 63}},
		{"stores r5 r6 9", code.Ins{Op: 11, D: 5, S: 6, Imm: 9}},
		{"jump a1", code.Ins{Op: 12, Imm: 1}},
		{"jeq r1 r2 a1", code.Ins{Op: 13, D: 1, S: 2, Imm: 1}},
		{"jne r2 r3 a1", code.Ins{Op: 14, D: 2, S: 3, Imm: 1}},
		{"jlt r3 r4 a1", code.Ins{Op: 15, D: 3, S: 4, Imm: 1}},
		{"jle r4 r5 a1", code.Ins{Op: 16, D: 4, S: 5, Imm: 1}},
		{"loop 64", code.Ins{Op: 17, Imm: 64}},
		{"end", code.Ins{Op: 18}},
		{"call 3", code.Ins{Op: 19, Imm: 3}},
		{"exit", code.Ins{Op: 20}},
	} {
		want := c.line + "\n"
		if code.Jumps(c.x.Op) {
			want += "a1:\n"
		}
		tells(t, []code.Ins{c.x}, want)
	}
}

// P21.1: each place that a jump goes to is named, and no other one: places ahead of a jump, its own, the end, one of several jumps.
func TestPlaces(t *testing.T) {
	jump := func(to int) code.Ins { return code.Ins{Op: code.Jump, Imm: to} }
	exit := code.Ins{Op: code.Exit}
	tells(t, nil, "")
	tells(t, []code.Ins{}, "")
	tells(t, []code.Ins{jump(0)}, "a0:\njump a0\n")
	tells(t, []code.Ins{jump(1)}, "jump a1\na1:\n")
	tells(t, []code.Ins{exit, jump(0), exit}, "a0:\nexit\njump a0\nexit\n")
	tells(t, []code.Ins{jump(2), jump(2), exit, jump(2)}, "jump a2\njump a2\na2:\nexit\njump a2\n")
	tells(t, []code.Ins{jump(3), jump(2), jump(1)}, "jump a3\na1:\njump a2\na2:\njump a1\na3:\n")
	// The Imm of other operations is no place.
	tells(t, []code.Ins{{Op: code.Set, Imm: 1}, {Op: code.Loop, Imm: 2}, {Op: code.End}, {Op: code.Call, Imm: 3}, exit},
		"set r0 1\nloop 2\nend\ncall 3\nexit\n")
}

// P21.1: programs as long as they may be, with a jump to each place that there may be.
func TestLongest(t *testing.T) {
	for to := range api.MaxCode {
		l, _ := exits(api.MaxCode)
		l[5] = code.Ins{Op: code.JumpNe, D: 1, S: 2, Imm: to}
		name := "a" + strconv.Itoa(to)
		want := ""
		for at := range l {
			if at == to {
				want += name + ":\n"
			}
			if at == 5 {
				want += "jne r1 r2 " + name + "\n"
			} else {
				want += "exit\n"
			}
		}
		tells(t, l, want)
	}
	l, s := exits(127)
	tells(t, append(slices.Clone(l[1:]), code.Ins{Op: code.Jump, Imm: 127}), s[5:]+"jump a127\na127:\n")
}

// P21.1: layer 17's errors, ahead of a jump's.
func TestTextErrors(t *testing.T) {
	long, _ := exits(api.MaxCode + 1)
	refuses(t, long, api.ErrLong)
	refuses(t, append(slices.Clone(long), code.Ins{Op: 21}), api.ErrLong)
	far := code.Ins{Op: code.Jump, Imm: 100}
	refuses(t, append([]code.Ins{far}, long...), api.ErrLong)
	for _, x := range []code.Ins{{Op: 21}, {Op: -1}, {Op: math.MinInt}, {D: 8}, {D: -1}, {S: 1}, {Op: code.Jump, Imm: 128}, {Op: code.Jump, Imm: -1}, {Op: code.Loop}, {Op: code.Exit, D: 1}} {
		refuses(t, []code.Ins{x}, api.ErrArg)
		refuses(t, []code.Ins{{Op: code.Exit}, x}, api.ErrArg)
		refuses(t, []code.Ins{far, x}, api.ErrArg)
	}
}

// P21.1: jumps to places above the end.
func TestTextFar(t *testing.T) {
	for n := 1; n < api.MaxCode; n++ {
		for _, op := range []int{code.Jump, code.JumpEq, code.JumpNe, code.JumpLt, code.JumpLe} {
			for _, at := range []int{0, n - 1} {
				l, _ := exits(n)
				l[at] = code.Ins{Op: op, Imm: n}
				if s, err := asm.Text(l); s == "" || err != nil {
					t.Errorf("%d of %d: %q, %v", at, n, s, err)
				}
				l[at].Imm = api.MaxCode - 1
				if n < api.MaxCode-1 {
					refuses(t, l, api.ErrReject)
					l[at].Imm = n + 1
					refuses(t, l, api.ErrReject)
				}
			}
		}
	}
}

// Rules: what is behind a list's length stays, and no two programs share memory.
func TestMemory(t *testing.T) {
	room, s := exits(8)
	was := slices.Clone(room)
	asm.Text(room[:3])
	if !slices.Equal(room, was) {
		t.Error(room)
	}
	a, _, _ := asm.Parse(s)
	b, _, _ := asm.Parse(s)
	a[0].D = 3
	if b[0].D != 0 {
		t.Error("two programs share memory")
	}
}

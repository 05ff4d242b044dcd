package check_test

import (
	"testing"

	"posthorse/api"
	"posthorse/code"
)

// nest of so many loops within one another.
func nest(n int) []code.Ins { return chain(times(n, loop(1)), times(n, end())) }

// P19.1: the Loop or End that first shows that the loops aren't right.
func TestLoops(t *testing.T) {
	out := program(set(0, 2), exit())
	for _, c := range []struct {
		l  []code.Ins
		at int
	}{
		{program(end()), 0},
		{program(set(0, 2), exit(), end()), 2},
		{program(loop(1), end(), end(), exit()), 2},
		{program(end(), loop(1)), 0},
		{program(loop(1), end(), end(), loop(1), end(), end()), 2},
		{program(loop(1)), 0},
		{program(set(0, 2), loop(1), exit()), 1},
		{program(loop(1), loop(1), end(), set(0, 2), exit()), 0},
		{program(loop(1), end(), loop(1), loop(1), end(), set(0, 2), exit()), 2},
		{program(loop(1), loop(1), loop(1), set(0, 2), exit()), 0},
		{chain(nest(4), out), 3},
		{chain(nest(5), out), 3},
		{chain(nest(3), nest(4), out), 9},
		{chain(times(4, loop(1)), times(3, end())), 3},
		{chain(times(4, loop(1)), times(9, end())), 3},
		{chain(times(5, loop(1)), out), 3},
		{chain(program(loop(1), loop(1)), nest(1), nest(2), out), 5},
		{chain(program(loop(64), loop(64)), times(3, end())), 4},
	} {
		fails(t, c.l, c.at, api.ErrReject)
	}
	for _, l := range [][]code.Ins{
		nest(0),
		nest(1),
		nest(3),
		chain(nest(1), nest(3), nest(2)),
		chain(program(loop(1), loop(1)), nest(1), nest(1), program(end(), end())),
		chain(program(loop(1)), nest(2), nest(2), program(end())),
	} {
		passes(t, chain(l, out))
		passes(t, chain(out, l))
	}
}

// P19.1: Fuel is the sum of how often each instruction is done at most, also of those that are never come to: an End as often as its body, its Loop less often.
func TestFuel(t *testing.T) {
	for _, c := range []struct {
		l    []code.Ins
		want int
	}{
		{program(set(0, 2), exit()), 2},
		{program(set(0, 2), exit(), exit(), exit()), 4},
		{program(jump(2), set(3, 3), set(0, 2), exit()), 4},
		{program(loop(5), end(), set(0, 2), exit()), 1 + 5 + 2},
		{program(loop(5), set(4, 1), set(4, 2), end(), set(0, 2), exit()), 1 + 3*5 + 2},
		{program(set(0, 2), loop(5), loop(7), set(4, 1), end(), set(4, 2), end(), exit()), 2 + 5 + 35 + 35 + 5 + 5 + 1},
		{program(set(0, 2), loop(2), loop(3), loop(4), end(), end(), end(), exit()), 2 + 2 + 6 + 24 + 6 + 2 + 1},
		{program(set(0, 2), loop(3), end(), loop(4), end(), exit()), 2 + 3 + 1 + 4 + 1},
		{program(set(0, 2), loop(3), loop(2), end(), loop(5), end(), end(), exit()), 2 + 3 + 6 + 3 + 15 + 3 + 1},
		{program(set(0, 2), exit(), loop(64), end()), 3 + 64},
		{program(set(0, 2), loop(64), exit(), end(), exit()), 2 + 64 + 64 + 1},
	} {
		if v := passes(t, c.l); v.Fuel != c.want {
			t.Errorf("%v: %d, want %d", c.l, v.Fuel, c.want)
		}
	}
}

// P19.1: ErrFuel at 0 above MaxFuel, not at it.
func TestMaxFuel(t *testing.T) {
	out := program(set(0, 2), exit())
	l := chain(program(loop(61), loop(32), set(4, 1), end(), end()), out)
	n := passes(t, l).Fuel
	if n != 1+61+2*61*32+61+2 {
		t.Fatal(n)
	}
	l = chain(l, times(api.MaxFuel-n, exit()))
	if v := passes(t, l); v.Fuel != api.MaxFuel || len(v.Known) != len(l) {
		t.Error(v.Fuel)
	}
	fails(t, append(l, exit()), 0, api.ErrFuel)
	fails(t, chain(out, program(loop(64), loop(64), end(), end())), 0, api.ErrFuel)
	fails(t, chain(program(loop(64), loop(64), loop(64), end(), end(), end()), out), 0, api.ErrFuel)
}

// P19.1: where a jump may go to: above its own place, below the length, and into no body in which it isn't.
func TestJumps(t *testing.T) {
	for op := code.Jump; op <= code.JumpLe; op++ {
		j := func(to int) code.Ins { return branch(op, 0, 0, to) }
		head := set(0, 2)
		for _, c := range []struct {
			l  []code.Ins
			at int // of what is wrong; -1 of nothing
		}{
			{program(head, j(2), exit()), -1},
			{program(head, j(3), exit(), exit()), -1},
			{program(head, j(1), exit()), 1},
			{program(head, j(0), exit()), 1},
			{program(head, j(3), exit()), 1},
			{program(head, j(4), exit()), 1},
			{program(head, j(127), exit()), 1},
			{program(head, j(2)), 1},
			{program(head, exit(), j(3), exit()), -1},
			{program(head, exit(), j(2), exit()), 2}, // also where it is never come to
			{program(head, exit(), j(4), exit()), 2},
			{program(head, loop(3), j(3), end(), exit()), -1},
			{program(head, loop(3), j(4), end(), exit()), -1},
			{program(head, loop(3), j(1), end(), exit()), 2},
			{program(head, j(2), loop(3), end(), exit()), -1}, // a Loop isn't in its body
			{program(head, j(3), loop(3), end(), exit()), 1},  // an End is
			{program(head, j(3), loop(3), set(4, 1), end(), exit()), 1},
			{program(head, j(4), loop(3), set(4, 1), end(), exit()), 1},
			{program(head, j(5), loop(3), set(4, 1), end(), exit()), -1},
			{program(head, exit(), j(4), loop(3), end(), exit()), 2},
			{program(head, loop(3), j(3), loop(2), end(), end(), exit()), -1},
			{program(head, loop(3), j(4), loop(2), end(), end(), exit()), 2},
			{program(head, loop(3), j(5), loop(2), end(), end(), exit()), -1},
			{program(head, loop(3), j(6), loop(2), end(), end(), exit()), -1},
			{program(head, loop(3), loop(2), j(4), end(), end(), exit()), -1},
			{program(head, loop(3), loop(2), j(5), end(), end(), exit()), -1},
			{program(head, loop(3), loop(2), j(6), end(), end(), exit()), -1},
			{program(head, loop(3), j(4), end(), loop(2), end(), exit()), -1},
			{program(head, loop(3), j(5), end(), loop(2), end(), exit()), 2}, // out of one, into the next one
			{program(head, loop(3), j(6), end(), loop(2), end(), exit()), -1},
			{program(head, j(3), loop(3), loop(2), end(), end(), exit()), 1},
			{program(head, j(4), loop(3), loop(2), end(), end(), exit()), 1},
			{program(head, j(5), loop(3), loop(2), end(), end(), exit()), 1},
			{program(head, j(6), loop(3), loop(2), end(), end(), exit()), -1},
		} {
			if c.at < 0 {
				passes(t, c.l)
			} else {
				fails(t, c.l, c.at, api.ErrReject)
			}
		}
	}
}

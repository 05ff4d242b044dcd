package check_test

import (
	"math"
	"reflect"
	"slices"
	"testing"

	"posthorse/api"
	"posthorse/code"
	"posthorse/span"
)

// P19.1: the document's example.
func TestExample(t *testing.T) {
	v := passes(t, program(set(0, 2), exit()))
	if v.Fuel != 2 {
		t.Error(v.Fuel)
	}
	knows(t, v, 0, nil)
	knows(t, v, 1, facts{0: to(2, 2)})
}

// P19.1: layer 17's errors, at 0, ahead of all else.
func TestCodeErrors(t *testing.T) {
	long := chain(times(128, set(0, 2)), program(exit()))
	fails(t, long, 0, api.ErrLong)
	fails(t, times(1000, end()), 0, api.ErrLong)
	fails(t, chain(long, program(set(8, 0))), 0, api.ErrLong)
	passes(t, long[1:])
	for _, x := range []code.Ins{{Op: 21}, {Op: -1}, set(8, 0), set(-1, 0), set(0, 1<<31), jump(128), loop(0), loop(65), call(0), call(4), with(code.Clamp, 0, -1), {Op: code.Exit, Imm: 1}, {Op: math.MinInt, D: math.MaxInt}} {
		fails(t, program(x), 0, api.ErrArg)
		fails(t, program(set(0, 2), exit(), x), 0, api.ErrArg)
		fails(t, program(end(), set(0, 2), x, exit()), 0, api.ErrArg)
	}
}

// P19.1: no program at all.
func TestEmpty(t *testing.T) {
	fails(t, nil, 0, api.ErrReject)
	fails(t, []code.Ins{}, 0, api.ErrReject)
}

// P19.1: which instruction is told: the first one by its place, whatever is wrong with it.
func TestFirst(t *testing.T) {
	wrong := look(code.Load, 0, 5, 0) // register 5 has no number
	fails(t, program(wrong, jump(0), exit()), 0, api.ErrReject)
	fails(t, program(jump(0), wrong, exit()), 0, api.ErrReject)
	fails(t, program(jump(2), wrong, jump(0), exit()), 2, api.ErrReject) // 1 is never come to
	fails(t, program(set(0, 0), wrong, jump(0)), 1, api.ErrReject)
	fails(t, program(set(0, 0), jump(9), wrong), 1, api.ErrReject)
	fails(t, program(set(0, 0), exit(), jump(0), wrong), 2, api.ErrReject)
	fails(t, program(wrong, wrong, exit()), 0, api.ErrReject)
	fails(t, program(set(0, 0), wrong, set(0, 0)), 1, api.ErrReject)
}

// P19.1: the loops are told ahead of all other instructions, and ErrFuel behind all of them.
func TestOrder(t *testing.T) {
	wrong := look(code.Load, 0, 5, 0)
	fails(t, program(wrong, exit(), end()), 2, api.ErrReject)
	fails(t, program(wrong, loop(2), exit()), 1, api.ErrReject)
	fails(t, program(jump(0), loop(2), exit()), 1, api.ErrReject)
	much := program(loop(64), loop(64), end(), end())
	fails(t, chain(much, program(set(0, 2), exit())), 0, api.ErrFuel)
	fails(t, chain(much, program(exit())), 4, api.ErrReject)
	fails(t, chain(much, program(set(0, 2))), 4, api.ErrReject)
	fails(t, chain(much, program(end())), 4, api.ErrReject)
	fails(t, chain(much, program(set(0, 2), exit(), jump(0))), 6, api.ErrReject)
	fails(t, chain(much, program(set(0, 2), call(4))), 0, api.ErrArg)
}

// P19.1: an instruction that is come to, and goes on behind the last one.
func TestLast(t *testing.T) {
	head, out := program(set(2, 0), set(3, 0), set(4, 0)), program(set(0, 2), exit())
	for _, x := range []code.Ins{set(0, 2), of(code.Move, 0, 1), of(code.Add, 1, 1), with(code.AddI, 1, 1), with(code.Clamp, 1, 1), look(code.LoadK, 0, 4, 0), store(4, 1, 0), call(1), call(2), call(3)} {
		fails(t, chain(head, program(x)), 3, api.ErrReject)
		passes(t, chain(head, program(x), out))
		passes(t, chain(out, program(x))) // never come to
		passes(t, chain(out, program(x, x)))
	}
	fails(t, program(loop(2), end()), 1, api.ErrReject)
	passes(t, program(set(0, 2), loop(2), exit(), end()))
	fails(t, program(set(0, 2), loop(2), jump(3), end()), 3, api.ErrReject)
	fails(t, program(set(0, 2), branch(code.JumpEq, 0, 0, 3), exit(), set(0, 3)), 3, api.ErrReject)
}

// Rules: no argument is changed, the room behind it neither, and no two verdicts share memory.
func TestMemory(t *testing.T) {
	room := program(set(0, 2), exit(), set(7, 7), exit())
	was := slices.Clone(room)
	a, b := passes(t, room[:2]), passes(t, room[:2])
	if !slices.Equal(room, was) {
		t.Error(room)
	}
	if !reflect.DeepEqual(a, b) {
		t.Error(a, b)
	}
	a.Known[0][3], a.Spans[0][3] = true, to(1, 2)
	if b.Known[0][3] || b.Spans[0][3] != (span.Span{}) {
		t.Error("two verdicts share memory")
	}
}

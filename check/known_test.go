package check_test

import (
	"maps"
	"slices"
	"testing"

	"posthorse/api"
	"posthorse/code"
	"posthorse/span"
)

// P19.1: at first register 1 has a number, from 0 to MaxKey, and no other one has.
func TestAtFirst(t *testing.T) {
	for r := range 8 {
		l := program(of(code.Move, 0, r), exit())
		if r == 1 {
			knows(t, passes(t, l), 1, facts{0: to(0, 16)})
		} else {
			fails(t, l, 0, api.ErrReject)
		}
	}
}

// P19.1: the span of what each operation writes; all else stays as it was.
func TestWrites(t *testing.T) {
	head := program(set(5, 3), set(2, -7), set(3, 100), look(code.LoadK, 4, 5, -2), look(code.Load2, 6, 5, 500))
	ahead := facts{2: to(-7, -7), 3: to(100, 100), 4: to(0, 255), 5: to(3, 3), 6: to(0, 65535)}
	for _, c := range []struct {
		x    code.Ins
		want facts
	}{
		{set(0, 9), facts{0: to(9, 9)}},
		{set(4, -1<<31), facts{4: to(-1<<31, -1<<31)}},
		{set(1, 1<<31-1), facts{1: to(1<<31-1, 1<<31-1)}},
		{of(code.Move, 0, 1), facts{0: to(0, 16)}},
		{of(code.Move, 2, 6), facts{2: to(0, 65535)}},
		{of(code.Move, 4, 4), nil},
		{of(code.Add, 2, 4), facts{2: to(-7, 248)}},
		{of(code.Add, 4, 4), facts{4: to(0, 510)}},
		{of(code.Sub, 2, 4), facts{2: to(-262, -7)}},
		{of(code.Sub, 4, 2), facts{4: to(7, 262)}},
		{of(code.Sub, 4, 4), facts{4: to(-255, 255)}},
		{of(code.Sub, 3, 1), facts{3: to(84, 100)}},
		{with(code.AddI, 4, -5), facts{4: to(-5, 250)}},
		{with(code.AddI, 1, 1<<31-1), facts{1: to(1<<31-1, 1<<31+15)}},
		{with(code.MulI, 4, 3), facts{4: to(0, 765)}},
		{with(code.MulI, 4, -3), facts{4: to(-765, 0)}},
		{with(code.MulI, 6, 1<<31-1), facts{6: to(0, 1<<40)}},
		{with(code.MulI, 6, -1<<31), facts{6: to(-1<<40, 0)}},
		{with(code.MulI, 6, 0), facts{6: to(0, 0)}},
		{with(code.Clamp, 4, 9), facts{4: to(0, 9)}},
		{with(code.Clamp, 2, 9), facts{2: to(0, 0)}},
		{with(code.Clamp, 3, 9), facts{3: to(9, 9)}},
		{with(code.Clamp, 3, 0), facts{3: to(0, 0)}},
		{with(code.Clamp, 1, 1<<31-1), nil},
		{look(code.Load, 0, 4, 0), facts{0: to(0, 255)}},
		{look(code.Load, 3, 5, 0), facts{3: to(0, 255)}},
		{look(code.Load2, 0, 4, 0), facts{0: to(0, 65535)}},
		{look(code.LoadK, 0, 5, 0), facts{0: to(0, 255)}},
		{look(code.LoadS, 3, 5, 0), facts{3: to(0, 255)}},
		{store(5, 2, 0), nil},
		{jump(6), nil},
		{branch(code.JumpLt, 3, 3, 6), nil},
		{call(3), nil},
	} {
		v := passes(t, chain(head, program(c.x, set(0, 2), exit())))
		knows(t, v, 5, ahead)
		want := maps.Clone(ahead)
		maps.Copy(want, c.want)
		knows(t, v, 6, want)
	}
}

// P19.1: what the helpers write: 1 register 0, the others nothing.
func TestHelpersWrite(t *testing.T) {
	head := program(set(2, 5), set(3, 6))
	for helper := 1; helper <= 3; helper++ {
		zero := to(9, 9)
		if helper == 1 {
			zero = to(-1, 1)
			v := passes(t, chain(head, program(call(1), exit())))
			knows(t, v, 2, facts{2: to(5, 5), 3: to(6, 6)})
			knows(t, v, 3, facts{0: zero, 2: to(5, 5), 3: to(6, 6)})
		} else {
			fails(t, chain(head, program(call(helper), exit())), 3, api.ErrReject) // 0 has no number still
		}
		v := passes(t, chain(program(set(0, 9)), head, program(call(helper), exit())))
		knows(t, v, 4, facts{0: zero, 2: to(5, 5), 3: to(6, 6)})
	}
}

// P19.1: the registers that each operation reads must have numbers, and no other ones.
func TestReads(t *testing.T) {
	for _, c := range []struct {
		x     code.Ins
		reads []int
	}{
		{set(5, 1), nil},
		{of(code.Move, 5, 6), []int{6}},
		{of(code.Add, 5, 6), []int{5, 6}},
		{of(code.Sub, 5, 6), []int{5, 6}},
		{with(code.AddI, 5, 1), []int{5}},
		{with(code.MulI, 5, 1), []int{5}},
		{with(code.Clamp, 5, 1), []int{5}},
		{look(code.Load, 5, 6, 0), []int{6}},
		{look(code.Load2, 5, 6, 0), []int{6}},
		{look(code.LoadK, 5, 6, 0), []int{6}},
		{look(code.LoadS, 5, 6, 0), []int{6}},
		{store(5, 6, 0), []int{5, 6}},
		{jump(9), nil},
		{branch(code.JumpEq, 5, 6, 9), []int{5, 6}},
		{branch(code.JumpNe, 5, 6, 9), []int{5, 6}},
		{branch(code.JumpLt, 5, 6, 9), []int{5, 6}},
		{branch(code.JumpLe, 5, 6, 9), []int{5, 6}},
		{call(1), []int{2, 3}},
		{call(2), []int{2, 3}},
		{call(3), []int{2}},
		{exit(), []int{0}},
	} {
		for without := range 8 {
			var l []code.Ins
			for r := range 8 {
				l = append(l, set(r, 0))
			}
			l[without] = jump(without + 1)
			l = append(l, c.x, set(0, 2), exit()) // at the place 8
			if slices.Contains(c.reads, without) {
				fails(t, l, 8, api.ErrReject)
			} else {
				passes(t, l)
			}
		}
	}
}

// between puts a span's number into a register: of the least and the greatest by two ways that meet.
func between(r int, a span.Span, at int) []code.Ins {
	return program(set(r, a.Lo), branch(code.JumpEq, 1, 1, at+3), set(r, a.Hi))
}

// P19.1: where looks must be within: their whole span, with Imm, to the byte.
func TestLooks(t *testing.T) {
	for _, c := range []struct {
		x           func(off int) code.Ins // with register 2 as the place
		size, bound int
	}{
		{func(off int) code.Ins { return look(code.Load, 0, 2, off) }, 1, 512},
		{func(off int) code.Ins { return look(code.Load2, 0, 2, off) }, 2, 512},
		{func(off int) code.Ins { return look(code.LoadK, 0, 2, off) }, 1, 16},
		{func(off int) code.Ins { return look(code.LoadS, 0, 2, off) }, 1, 64},
		{func(off int) code.Ins { return store(2, 1, off) }, 1, 64},
	} {
		last := c.bound - c.size // the last place that may be
		for _, off := range []int{0, 1, -1, 7, -300, 1000, 1<<31 - 1 - 600, -1 << 31} {
			for _, a := range []struct {
				lo, hi int
				ok     bool
			}{
				{0, 0, true},
				{0, last, true},
				{last, last, true},
				{3, 5, true},
				{0, last + 1, false},
				{last + 1, last + 1, false},
				{-1, last, false},
				{-1, -1, false},
				{-1, 0, false},
				{-1, last + 1, false},
			} {
				from, till := a.lo-off, a.hi-off
				// In two parts, as one Set can't reach as far.
				l := chain(between(2, to(from/2, till-from+from/2), 0), program(with(code.AddI, 2, from-from/2)))
				l = chain(l, program(c.x(off), set(0, 2), exit()))
				if a.ok {
					knows(t, passes(t, l), len(l)-3, facts{2: to(from, till)})
				} else {
					fails(t, l, len(l)-3, api.ErrReject)
				}
			}
		}
		fails(t, program(set(2, -1<<31), with(code.MulI, 2, -1<<31), c.x(0), set(0, 2), exit()), 2, api.ErrReject)
		fails(t, program(set(2, -1<<31), with(code.MulI, 2, 1<<31-1), c.x(0), set(0, 2), exit()), 2, api.ErrReject)
	}
}

// P19.1: what helpers 1 and 2 look at must be there, with all that registers 2 and 3 may be.
func TestHelpers(t *testing.T) {
	for helper, most := range map[int]int{1: api.MaxKey, 2: api.MaxValue} {
		for _, c := range []struct {
			at, n span.Span
			ok    bool
		}{
			{to(0, 0), to(0, 0), true},
			{to(0, 0), to(0, most), true},
			{to(0, 0), to(most, most), true},
			{to(0, 0), to(0, most+1), false},
			{to(0, 0), to(most+1, most+1), false},
			{to(0, 0), to(-1, 0), false},
			{to(0, 0), to(-1, -1), false},
			{to(0, 512-most), to(0, most), true},
			{to(0, 512-most+1), to(0, most), false},
			{to(512-most+1, 512-most+1), to(0, most), false},
			{to(512-most+1, 512-most+1), to(0, most-1), true},
			{to(511, 511), to(1, 1), true},
			{to(0, 511), to(0, 1), true},
			{to(512, 512), to(0, 0), true},
			{to(512, 512), to(0, 1), false},
			{to(513, 513), to(0, 0), false},
			{to(-1, -1), to(0, 0), false},
			{to(-1, 5), to(1, 2), false},
			{to(-1, -1), to(1, 1), false},
			{to(1<<31-1, 1<<31-1), to(0, 0), false},
			{to(0, 0), to(1<<31-1, 1<<31-1), false},
			{to(-1<<31, -1<<31), to(-1<<31, 1<<31-1), false},
		} {
			l := chain(between(2, c.at, 0), between(3, c.n, 3), program(call(helper), set(0, 2), exit()))
			if c.ok {
				knows(t, passes(t, l), 6, facts{2: c.at, 3: c.n})
			} else {
				fails(t, l, 6, api.ErrReject)
			}
		}
	}
	// Helper 3 takes any number.
	for _, a := range []span.Span{to(-1<<31, 1<<31-1), to(-1, -1), to(1<<31-1, 1<<31-1)} {
		passes(t, chain(between(2, a, 0), program(call(3), set(0, 2), exit())))
	}
}

// P19.1: where an instruction is come to from several ones: a number where all have one, and the Join of the spans.
func TestJoin(t *testing.T) {
	v := passes(t, program(
		set(2, 5), set(4, 1),
		branch(code.JumpLt, 1, 2, 6), // 2 is 5
		set(2, 9), set(3, 1),
		branch(code.JumpEq, 2, 3, 7), // 2 is 9
		set(2, 7),                    // come to from 2 and 5
		set(0, 2),                    // come to from 5 and 6
		exit(),
	))
	knows(t, v, 5, facts{2: to(9, 9), 3: to(1, 1), 4: to(1, 1)})
	knows(t, v, 6, facts{2: to(5, 9), 4: to(1, 1)})
	knows(t, v, 7, facts{2: to(7, 9), 4: to(1, 1)})
	knows(t, v, 8, facts{0: to(2, 2), 2: to(7, 9), 4: to(1, 1)})

	// Nothing is learned of what a jump asks, be it never so.
	v = passes(t, program(set(2, 5), set(3, 6), branch(code.JumpEq, 2, 3, 5), set(2, 1), set(4, 1), set(0, 2), exit()))
	knows(t, v, 3, facts{2: to(5, 5), 3: to(6, 6)})
	knows(t, v, 5, facts{2: to(1, 5), 3: to(6, 6)})

	// Of three ways one without a number suffices; a register that lost it may get one again.
	l := program(set(2, 5), branch(code.JumpLe, 1, 2, 6), set(3, 1), branch(code.JumpLe, 1, 2, 6), set(3, 4), set(4, 4), of(code.Move, 0, 3), exit())
	fails(t, l, 6, api.ErrReject)
	l[6] = set(3, 8)
	fails(t, l, 7, api.ErrReject)
	v = passes(t, chain(l[:7], program(of(code.Move, 0, 3), exit())))
	knows(t, v, 6, facts{2: to(5, 5)})
	knows(t, v, 7, facts{2: to(5, 5), 3: to(8, 8)})
	knows(t, v, 8, facts{0: to(8, 8), 2: to(5, 5), 3: to(8, 8)})

	// A jump to the instruction that comes next joins the same with itself.
	v = passes(t, program(set(0, 2), branch(code.JumpNe, 0, 0, 2), exit()))
	knows(t, v, 2, facts{0: to(2, 2)})
}

// P19.1: of an instruction that is never come to nothing is known, and it needs nothing; what would be come to by it alone neither.
func TestNever(t *testing.T) {
	wrong := look(code.Load, 0, 5, 0)
	v := passes(t, program(set(0, 2), jump(5), wrong, wrong, branch(code.JumpEq, 6, 7, 6), exit(), wrong, exit()))
	for _, at := range []int{2, 3, 4, 6, 7} {
		knowsNothing(t, v, at)
	}
	knows(t, v, 5, facts{0: to(2, 2)})
	v = passes(t, program(set(0, 2), exit(), jump(4), wrong, wrong, loop(3), call(1), end(), store(7, 7, 7)))
	for at := 2; at < 9; at++ {
		knowsNothing(t, v, at)
	}
	// Jumps that are never come to take nothing along.
	v = passes(t, program(jump(3), set(0, 7), jump(4), set(0, 2), exit()))
	knows(t, v, 4, facts{0: to(2, 2)})
	// Where an End is never come to, what is behind it isn't by it.
	v = passes(t, program(set(0, 2), loop(2), set(3, 1), exit(), end(), wrong))
	knowsNothing(t, v, 4)
	knowsNothing(t, v, 5)
	// But all of these are told of, where they are come to.
	fails(t, program(set(0, 2), branch(code.JumpEq, 0, 0, 3), exit(), wrong), 3, api.ErrReject)
}

// P19.1: behind a Loop what its body writes may be anything, where it has a number; all else stays. Behind its End all is as ahead of it.
func TestLoopKnown(t *testing.T) {
	v := passes(t, program(
		set(2, 5), set(3, 6), set(4, 7),
		loop(3), // 3
		with(code.AddI, 2, 1), set(6, 1), with(code.Clamp, 2, 9),
		end(), // 7
		set(0, 2), exit(),
	))
	ahead := facts{2: to(5, 5), 3: to(6, 6), 4: to(7, 7)}
	knows(t, v, 3, ahead)
	knows(t, v, 4, facts{2: span.Top(), 3: to(6, 6), 4: to(7, 7)})
	knows(t, v, 5, facts{2: to(-1<<40+1, 1<<40), 3: to(6, 6), 4: to(7, 7)})
	knows(t, v, 6, facts{2: to(-1<<40+1, 1<<40), 3: to(6, 6), 4: to(7, 7), 6: to(1, 1)})
	knows(t, v, 7, facts{2: to(0, 9), 3: to(6, 6), 4: to(7, 7), 6: to(1, 1)})
	knows(t, v, 8, facts{2: to(0, 9), 3: to(6, 6), 4: to(7, 7), 6: to(1, 1)})
	knows(t, v, 9, facts{0: to(2, 2), 2: to(0, 9), 3: to(6, 6), 4: to(7, 7), 6: to(1, 1)})
}

// P19.1: each operation that writes is one for the Loop, also one that is done once alone, changes nothing, is never come to, or stands in an inner loop; one behind the End, or ahead of the Loop, isn't.
func TestLoopWrites(t *testing.T) {
	zero := program(set(0, 0), set(2, 0), set(3, 0), set(4, 0)) // and the Loop at 4
	all := facts{0: to(0, 0), 2: to(0, 0), 3: to(0, 0), 4: to(0, 0)}
	for _, c := range []struct {
		body   []code.Ins
		writes int // -1: nothing
	}{
		{program(set(4, 0)), 4},
		{program(of(code.Move, 4, 4)), 4},
		{program(of(code.Add, 4, 3)), 4},
		{program(of(code.Sub, 4, 3)), 4},
		{program(with(code.AddI, 4, 0)), 4},
		{program(with(code.MulI, 4, 1)), 4},
		{program(with(code.Clamp, 4, 1)), 4},
		{program(look(code.Load, 4, 3, 0)), 4},
		{program(look(code.Load2, 4, 3, 0)), 4},
		{program(look(code.LoadK, 4, 3, 0)), 4},
		{program(look(code.LoadS, 4, 3, 0)), 4},
		{program(set(1, 0)), 1},
		{program(set(0, 0)), 0},
		{program(call(1)), 0},
		{program(call(2)), -1},
		{program(call(3)), -1},
		{program(store(4, 3, 0)), -1},
		{program(branch(code.JumpEq, 4, 3, 6)), -1},
		{program(), -1},
		{program(exit()), -1},
		{program(jump(7), set(4, 0)), 4}, // never come to
		{program(exit(), set(4, 0)), 4},
		{program(loop(2), set(4, 0), end()), 4},
		{program(loop(2), loop(2), set(4, 0), end(), end()), 4},
		{program(loop(2), jump(8), set(4, 0), end()), 4},
		{program(set(7, 0)), -1}, // 7 has no number ahead, so that it hasn't one behind
	} {
		for _, n := range []int{1, 2} {
			l := chain(zero, program(loop(n)), c.body, program(end(), set(4, 9), set(3, 9), exit()))
			v := passes(t, l)
			want := maps.Clone(all)
			knows(t, v, 4, want)
			if c.writes >= 0 {
				want[c.writes] = span.Top()
			}
			knows(t, v, 5, want)
		}
	}
}

// P19.1: a Loop within a Loop: the outer one's body has the inner one's.
func TestLoopInner(t *testing.T) {
	v := passes(t, program(
		set(0, 0), set(2, 2), set(3, 3), set(4, 4),
		loop(2), // 4
		set(2, 5),
		loop(2), // 6
		set(3, 6),
		end(), // 8
		of(code.Move, 2, 3),
		end(), // 10
		exit(),
	))
	top := span.Top()
	knows(t, v, 5, facts{0: to(0, 0), 2: top, 3: top, 4: to(4, 4)})
	knows(t, v, 6, facts{0: to(0, 0), 2: to(5, 5), 3: top, 4: to(4, 4)})
	knows(t, v, 7, facts{0: to(0, 0), 2: to(5, 5), 3: top, 4: to(4, 4)})
	knows(t, v, 8, facts{0: to(0, 0), 2: to(5, 5), 3: to(6, 6), 4: to(4, 4)})
	knows(t, v, 9, facts{0: to(0, 0), 2: to(5, 5), 3: to(6, 6), 4: to(4, 4)})
	knows(t, v, 10, facts{0: to(0, 0), 2: to(6, 6), 3: to(6, 6), 4: to(4, 4)})
	knows(t, v, 11, facts{0: to(0, 0), 2: to(6, 6), 3: to(6, 6), 4: to(4, 4)})
}

// P19.1: jumps out of a body, and to its End, take along what is known ahead of them.
func TestLoopJumps(t *testing.T) {
	v := passes(t, program(
		set(0, 2), set(2, 2),
		loop(3), // 2
		set(2, 3), set(5, 5),
		branch(code.JumpLt, 1, 2, 9), // 5: out, with 3
		branch(code.JumpLe, 1, 2, 8), // 6: to the End, with 3
		set(2, 4),
		end(),  // 8: 3 and 4
		exit(), // 9
	))
	knows(t, v, 3, facts{0: to(2, 2), 2: span.Top()})
	knows(t, v, 8, facts{0: to(2, 2), 2: to(3, 4), 5: to(5, 5)})
	knows(t, v, 9, facts{0: to(2, 2), 2: to(3, 4), 5: to(5, 5)})
	// What is known is a look within, with a Clamp ahead of it alone.
	body := program(look(code.Load, 4, 2, 0), with(code.AddI, 2, 1), end(), set(0, 2), exit())
	fails(t, chain(program(set(2, 0), loop(3)), body), 2, api.ErrReject)
	passes(t, chain(program(set(2, 0), loop(3), with(code.Clamp, 2, 511)), body))
	fails(t, chain(program(set(2, 0), loop(3), with(code.Clamp, 2, 512)), body), 3, api.ErrReject)
	// A number that the body alone gives isn't there at its begin.
	fails(t, program(loop(2), of(code.Move, 0, 4), set(4, 1), end(), exit()), 1, api.ErrReject)
	passes(t, program(loop(2), set(4, 1), of(code.Move, 0, 4), end(), exit()))
}

package run_test

import (
	"testing"

	"posthorse/api"
	"posthorse/code"
	"posthorse/run"
)

// P20.1: each jump goes on at its place, where what it asks for is so; else with the instruction that comes next.
func TestJumps(t *testing.T) {
	for _, c := range []struct {
		op             int
		less, same, up bool // does it go, where D is below S, the same, above?
	}{
		{code.JumpEq, false, true, false},
		{code.JumpNe, true, false, true},
		{code.JumpLt, true, false, false},
		{code.JumpLe, true, true, false},
	} {
		for _, n := range []int{-1 << 31, -1, 0, 5, 1<<31 - 4} {
			for d, goes := range map[int]bool{n: c.less, n + 1: c.same, n + 2: c.up} {
				want := run.Result{Code: 0, Steps: 4}
				if !goes {
					want = run.Result{Code: 1, Steps: 5}
				}
				ends(t, program(set(4, d), set(5, n+1), branch(c.op, 4, 5, 4), set(0, 1), exit()), want)
			}
		}
	}
	ends(t, program(jump(2), set(0, 1), exit()), run.Result{Steps: 2})
	ends(t, program(jump(1), set(0, 1), exit()), run.Result{Code: 1, Steps: 3})
	ends(t, chain(program(jump(127)), times(126, end()), program(exit())), run.Result{Steps: 2})
}

// P20.1: a jump to a place that isn't above its own, or isn't there, aborts the run, where it goes; else it doesn't matter.
func TestJumpWrong(t *testing.T) {
	for _, to := range []int{0, 1, 2, 5, 6, 127} {
		breaks(t, program(set(0, 1), set(4, 1), jump(to), set(0, 3), exit()), much, 3, api.ErrAbort)
		breaks(t, program(set(0, 1), set(4, 1), branch(code.JumpEq, 0, 4, to), set(0, 3), exit()), much, 3, api.ErrAbort)
		ends(t, program(set(0, 1), set(4, 1), branch(code.JumpLt, 0, 4, to), set(0, 3), exit()), run.Result{Code: 3, Steps: 5})
	}
	breaks(t, program(jump(1)), much, 1, api.ErrAbort)
	breaks(t, program(jump(0)), much, 1, api.ErrAbort)
}

// P20.1: a body is done as often as its Loop says, and inner ones each time anew.
func TestLoops(t *testing.T) {
	one := with(code.AddI, 0, 1)
	for _, n := range []int{1, 2, 3, 64} {
		ends(t, program(loop(n), one, end(), exit()), run.Result{Code: n, Steps: 1 + 2*n + 1})
		ends(t, program(loop(n), end(), one, exit()), run.Result{Code: 1, Steps: 1 + n + 2})
		ends(t, program(loop(n), loop(3), one, end(), end(), exit()), run.Result{Code: 3 * n, Steps: 1 + n*(1+6+1) + 1})
		ends(t, program(loop(2), loop(n), loop(5), one, end(), one, end(), end(), exit()), run.Result{Code: 2 * n * 6, Steps: 1 + 2*(1+n*(1+10+2)+1) + 1})
		ends(t, program(loop(n), one, end(), loop(7), one, end(), exit()), run.Result{Code: n + 7, Steps: 2*n + 17})
	}
	ends(t, program(loop(9), exit(), end()), run.Result{Steps: 2})
	breaks(t, program(loop(2), one, end()), much, 5, api.ErrAbort)
}

// P20.1: an End without a Loop, a Loop within three.
func TestLoopsWrong(t *testing.T) {
	breaks(t, program(end(), exit()), much, 1, api.ErrAbort)
	breaks(t, program(loop(2), end(), end(), exit()), much, 4, api.ErrAbort)
	breaks(t, program(loop(1), loop(1), end(), end(), end(), exit()), much, 5, api.ErrAbort)
	breaks(t, program(jump(2), loop(1), end(), exit()), much, 2, api.ErrAbort)
	breaks(t, chain(times(4, loop(1)), times(4, end()), program(exit())), much, 4, api.ErrAbort)
	breaks(t, chain(times(4, loop(1)), program(exit())), 3, 3, api.ErrFuel)
	ends(t, chain(times(3, loop(1)), times(3, end()), program(exit())), run.Result{Steps: 7})
	// Those that are over don't count: by their End, or by a jump.
	ends(t, program(loop(1), loop(1), loop(1), end(), loop(1), end(), end(), end(), exit()), run.Result{Steps: 9})
	ends(t, program(loop(1), loop(1), loop(1), jump(5), end(), loop(1), end(), end(), end(), exit()), run.Result{Steps: 9})
	// Within a fourth one, at which it doesn't begin.
	ends(t, program(loop(1), loop(1), jump(4), loop(1), loop(1), end(), end(), end(), exit(), end()), run.Result{Steps: 8})
	// Loops that have no End are begun no less.
	ends(t, chain(times(3, loop(5)), program(exit())), run.Result{Steps: 4})
	breaks(t, times(3, loop(5)), much, 3, api.ErrAbort)
}

// P20.1: a jump to a place within the body, its End too, goes on in the loop; one to a place outside ends it.
func TestLoopJumps(t *testing.T) {
	one := with(code.AddI, 0, 1)
	ends(t, program(loop(3), jump(3), one, end(), exit()), run.Result{Steps: 1 + 3*2 + 1})
	ends(t, program(loop(3), jump(3), one, one, end(), exit()), run.Result{Code: 3, Steps: 1 + 3*3 + 1})
	ends(t, program(loop(3), jump(4), one, end(), exit()), run.Result{Steps: 3})
	breaks(t, program(loop(3), jump(4), one, end(), end(), exit()), much, 3, api.ErrAbort)
	// Out of the inner one, into the outer one's body, at its End, behind it.
	ends(t, program(loop(2), loop(3), jump(4), end(), one, end(), exit()), run.Result{Code: 2, Steps: 1 + 2*4 + 1})
	ends(t, program(loop(2), loop(3), jump(5), end(), one, end(), exit()), run.Result{Steps: 1 + 2*3 + 1})
	ends(t, program(loop(2), loop(3), jump(6), end(), one, end(), exit()), run.Result{Steps: 4})
	// Out of three at once, of two of three, and of one.
	three := func(to int) []code.Ins {
		return program(loop(2), loop(2), loop(2), jump(to), end(), one, end(), one, end(), exit())
	}
	ends(t, three(4), run.Result{Code: 6, Steps: 1 + 2*(1+2*(1+4+2)+2) + 1})
	ends(t, three(5), run.Result{Code: 6, Steps: 1 + 2*(1+2*(2+2)+2) + 1})
	ends(t, three(6), run.Result{Code: 2, Steps: 1 + 2*(1+2*(2+1)+2) + 1})
	ends(t, three(7), run.Result{Code: 2, Steps: 1 + 2*(3+2) + 1})
	ends(t, three(8), run.Result{Steps: 1 + 2*(3+1) + 1})
	ends(t, three(9), run.Result{Steps: 5})
	// A loop that a jump ended begins anew.
	ends(t, program(set(4, 1), loop(2), loop(3), one, branch(code.JumpEq, 0, 4, 6), end(), end(), exit()), run.Result{Code: 4, Steps: 2 + (1 + 2 + 1) + (1 + 3*3 + 1) + 1})
}

// P20.1: where a jump goes into a body whose Loop didn't begin, its End takes of the one that began last.
func TestLoopInto(t *testing.T) {
	one := with(code.AddI, 0, 1)
	breaks(t, program(jump(2), loop(5), one, end(), exit()), much, 3, api.ErrAbort)
	// The End at 4 takes of the Loop at 0; when that is over, the End at 5 has none.
	breaks(t, program(loop(3), jump(3), loop(5), one, end(), end(), exit()), much, 1+3*3+1, api.ErrAbort)
	// A Loop without an End has all behind it as its body, so that a jump doesn't end it.
	ends(t, program(loop(3), jump(3), loop(5), one, end(), exit()), run.Result{Code: 3, Steps: 1 + 3*3 + 1})
}

package check

import (
	"posthorse/code"
	"posthorse/frame"
)

// wrongLoop: the Loop or End that first shows that the loops aren't right, if they aren't.
func wrongLoop(l []code.Ins) (int, bool) {
	var open []int // the Loops ahead that have no End as yet
	for i, x := range l {
		switch x.Op {
		case code.Loop:
			if len(open) == frame.Nested {
				return i, true
			}
			open = append(open, i)
		case code.End:
			if len(open) == 0 {
				return i, true
			}
			open = open[:len(open)-1]
		}
	}
	if len(open) > 0 {
		return open[0], true
	}
	return 0, false
}

// mayJump: is a place behind a jump, is it there, and in no body in which the jump isn't? Of such a body the Loop stands between the two, and the End doesn't.
func (w *walk) mayJump(at, to int) bool {
	if to <= at || to >= len(w.program) {
		return false
	}
	for i := at + 1; i < to; i++ {
		if w.program[i].Op == code.Loop && w.ends[i] >= to {
			return false
		}
	}
	return true
}

// fuel: the sum of how often each instruction is done at most.
func fuel(l []code.Ins) int {
	sum, often := 0, 1
	var open []int // how often it was ahead of each Loop that isn't over
	for _, x := range l {
		sum += often
		switch x.Op {
		case code.Loop:
			open = append(open, often)
			often *= x.Imm
		case code.End:
			n := len(open) - 1
			often, open = open[n], open[:n]
		}
	}
	return sum
}

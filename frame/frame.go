// Package frame is what layers 19 and 20 both go by: which End goes with a Loop, and what the helpers take and answer.
package frame

import (
	"posthorse/api"
	"posthorse/code"
)

// The registers that have a part of their own.
const (
	Result = 0 // what helper Compare answers; the Code at an Exit
	KeyLen = 1 // at first how long the key is
	At     = 2 // from which byte of the page on a helper looks; the page that is next
	Count  = 3 // at how many bytes it looks
)

// The helpers.
const (
	Compare = 1 + iota
	Value
	Next
)

// Nested is how many loops there may be within one another.
const Nested = 3

// Most: at how many bytes a helper looks at most.
func Most(helper int) int {
	switch helper {
	case Compare:
		return api.MaxKey
	case Value:
		return api.MaxValue
	}
	return 0
}

// Ends: for the place of each Loop that of the End that goes with it; where none does, the program's length, since all behind such a Loop is its body.
func Ends(l []code.Ins) []int {
	ends := make([]int, len(l))
	var open []int
	for i, x := range l {
		switch x.Op {
		case code.Loop:
			ends[i] = len(l)
			open = append(open, i)
		case code.End:
			if n := len(open); n > 0 {
				ends[open[n-1]] = i
				open = open[:n-1]
			}
		}
	}
	return ends
}

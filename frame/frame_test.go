package frame_test

import (
	"math"
	"math/rand"
	"slices"
	"testing"

	"posthorse/code"
	"posthorse/frame"
)

// program of a text: ( is a Loop, ) an End, all else another instruction.
func program(s string) []code.Ins {
	var l []code.Ins
	for _, c := range s {
		switch c {
		case '(':
			l = append(l, code.Ins{Op: code.Loop, Imm: 1})
		case ')':
			l = append(l, code.Ins{Op: code.End})
		default:
			l = append(l, code.Ins{Op: code.Set})
		}
	}
	return l
}

// The End of each Loop, also where some have none.
func TestEnds(t *testing.T) {
	for _, c := range []struct {
		s    string
		want []int
	}{
		{"", nil},
		{"..", []int{0, 0}},
		{"()", []int{1, 0}},
		{".(.).", []int{0, 3, 0, 0, 0}},
		{"(())", []int{3, 2, 0, 0}},
		{"()()", []int{1, 0, 3, 0}},
		{"((())())", []int{7, 4, 3, 0, 0, 6, 0, 0}},
		{"(((())))", []int{7, 6, 5, 4, 0, 0, 0, 0}},
		{"(", []int{1}},
		{"(.(.)", []int{5, 0, 4, 0, 0}},
		{")()", []int{0, 2, 0}},
		{"())(.", []int{1, 0, 0, 5, 0}},
		{"))", []int{0, 0}},
	} {
		if got := frame.Ends(program(c.s)); !slices.Equal(got, c.want) {
			t.Errorf("%s: %v, want %v", c.s, got, c.want)
		}
	}
}

// By chance: the End of a Loop is the first place up to which there are as many Ends as Loops from it on.
func TestEndsChance(t *testing.T) {
	r := rand.New(rand.NewSource(19))
	for range 3000 {
		l := make([]code.Ins, r.Intn(20))
		for i := range l {
			l[i].Op = []int{code.Loop, code.End, code.Exit}[r.Intn(3)]
		}
		was := slices.Clone(l)
		ends := frame.Ends(l)
		for i := range l {
			want := 0
			if l[i].Op == code.Loop {
				want = end(l, i)
			}
			if ends[i] != want {
				t.Errorf("%v: at %d %d, want %d", l, i, ends[i], want)
			}
		}
		if !slices.Equal(l, was) {
			t.Error("changed", was)
		}
	}
}

// end of the Loop at a place.
func end(l []code.Ins, at int) int {
	depth := 0
	for i := at; i < len(l); i++ {
		switch l[i].Op {
		case code.Loop:
			depth++
		case code.End:
			depth--
		}
		if depth == 0 {
			return i
		}
	}
	return len(l)
}

// The document's numbers.
func TestNumbers(t *testing.T) {
	if frame.Result != 0 || frame.KeyLen != 1 || frame.At != 2 || frame.Count != 3 {
		t.Error("registers")
	}
	if frame.Compare != 1 || frame.Value != 2 || frame.Next != 3 || frame.Nested != 3 {
		t.Error("helpers")
	}
	if frame.Most(1) != 16 || frame.Most(2) != 24 {
		t.Error(frame.Most(1), frame.Most(2))
	}
	for _, helper := range []int{math.MinInt, -1, 0, 3, 4, math.MaxInt} {
		if frame.Most(helper) != 0 {
			t.Error(helper)
		}
	}
}

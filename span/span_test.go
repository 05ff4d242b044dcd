package span_test

import (
	"math"
	"math/big"
	"math/rand"
	"testing"

	"posthorse/code"
	"posthorse/span"
)

const (
	low  = -1 << 40
	high = 1 << 40
)

// edge numbers that may be.
var edge = []int{low, low + 1, -1<<39 - 1, -1 << 39, -1<<31 - 1, -1 << 31, -512, -3, -1, 0, 1, 2, 7, 511, 1<<31 - 1, 1 << 31, 1<<39 - 1, 1 << 39, high - 1, high}

// far: ints that no register may have.
var far = []int{math.MinInt, math.MinInt + 1, -1 << 62, -1 << 41, low - 1, high + 1, 1 << 41, 1 << 62, math.MaxInt - 1, math.MaxInt}

// number: a big one's Cap by the document's words, the nearest one from -2^40 to 2^40.
func number(n *big.Int) int {
	if n.Cmp(big.NewInt(low)) < 0 {
		return low
	}
	if n.Cmp(big.NewInt(high)) > 0 {
		return high
	}
	return int(n.Int64())
}

// The three ways of reckoning, in numbers that have no end.
func plus(x, y int) int  { return number(new(big.Int).Add(big.NewInt(int64(x)), big.NewInt(int64(y)))) }
func less(x, y int) int  { return number(new(big.Int).Sub(big.NewInt(int64(x)), big.NewInt(int64(y)))) }
func times(x, y int) int { return number(new(big.Int).Mul(big.NewInt(int64(x)), big.NewInt(int64(y)))) }

// clamped: the nearest number from 0 to n.
func clamped(x, n int) int {
	if x < 0 {
		return 0
	}
	if x > n {
		return n
	}
	return x
}

// least span that has all of some numbers.
func least(l []int) span.Span {
	s := span.Span{Lo: l[0], Hi: l[0]}
	for _, n := range l {
		if n < s.Lo {
			s.Lo = n
		}
		if n > s.Hi {
			s.Hi = n
		}
	}
	return s
}

// all numbers of a span that is short; of a long one those at its ends and some between: as each way of reckoning rises, or falls, all along, they suffice.
func all(a span.Span) []int {
	var l []int
	if a.Hi-a.Lo <= 20 {
		for x := a.Lo; x <= a.Hi; x++ {
			l = append(l, x)
		}
		return l
	}
	for _, x := range append([]int{a.Lo, a.Lo + 1, (a.Lo + a.Hi) / 2, a.Hi - 1, a.Hi}, edge...) {
		if x >= a.Lo && x <= a.Hi {
			l = append(l, x)
		}
	}
	return l
}

// both: what a way of reckoning makes of all of two spans.
func both(a, b span.Span, way func(x, y int) int) span.Span {
	var l []int
	for _, x := range all(a) {
		for _, y := range all(b) {
			l = append(l, way(x, y))
		}
	}
	return least(l)
}

// each: what a way of reckoning makes of all of a span, and one number.
func each(a span.Span, n int, way func(x, y int) int) span.Span {
	var l []int
	for _, x := range all(a) {
		l = append(l, way(x, n))
	}
	return least(l)
}

// spans at the edges.
func spans() []span.Span {
	var l []span.Span
	for i, lo := range edge {
		for _, hi := range edge[i:] {
			l = append(l, span.Span{Lo: lo, Hi: hi})
		}
	}
	return l
}

// small spans: all from one small number to another.
func small(most int) []span.Span {
	var l []span.Span
	for lo := -most; lo <= most; lo++ {
		for hi := lo; hi <= most; hi++ {
			l = append(l, span.Span{Lo: lo, Hi: hi})
		}
	}
	return l
}

// want: is an answer that span?
func want(t *testing.T, what string, a, b any, got, want span.Span) {
	t.Helper()
	if got != want {
		t.Errorf("%s(%v, %v) = %v, want %v", what, a, b, got, want)
	}
}

// P18.1: Cap: the nearest number that may be.
func TestCap(t *testing.T) {
	for _, n := range edge {
		if span.Cap(n) != n {
			t.Error(n, span.Cap(n))
		}
	}
	for _, n := range far {
		want := high
		if n < 0 {
			want = low
		}
		if span.Cap(n) != want {
			t.Error(n, span.Cap(n))
		}
	}
	if high != code.Greatest {
		t.Error("the greatest number")
	}
}

// P18.1: Top, One and Has.
func TestHas(t *testing.T) {
	want(t, "Top", nil, nil, span.Top(), span.Span{Lo: low, Hi: high})
	for _, n := range edge {
		want(t, "One", n, nil, span.One(n), span.Span{Lo: n, Hi: n})
		if !span.Top().Has(n) {
			t.Error("Top hasn't", n)
		}
	}
	for _, n := range far {
		want(t, "One", n, nil, span.One(n), span.Span{Lo: span.Cap(n), Hi: span.Cap(n)})
		if span.Top().Has(n) || span.One(n).Has(n) {
			t.Error("there is", n)
		}
	}
	numbers := append(append([]int{-2, 3, 8, 510, 512}, edge...), far...)
	for _, a := range append(spans(), small(4)...) {
		for _, n := range numbers {
			if a.Has(n) != (n >= a.Lo && n <= a.Hi) {
				t.Error(a, n)
			}
		}
	}
	if s := (span.Span{Lo: 3, Hi: 1}); s.Has(1) || s.Has(2) || s.Has(3) {
		t.Error("a span without numbers has some")
	}
}

// P18.1: Join, Add and Sub of all small spans, number by number; the document's example.
func TestSmall(t *testing.T) {
	want(t, "Add", "1 to 3", "10 to 20", span.Add(span.Span{Lo: 1, Hi: 3}, span.Span{Lo: 10, Hi: 20}), span.Span{Lo: 11, Hi: 23})
	l := small(4)
	for _, a := range l {
		for _, b := range l {
			want(t, "Join", a, b, span.Join(a, b), least(append(all(a), all(b)...)))
			want(t, "Add", a, b, span.Add(a, b), both(a, b, plus))
			want(t, "Sub", a, b, span.Sub(a, b), both(a, b, less))
		}
		for n := -6; n <= 6; n++ {
			want(t, "Mul", a, n, span.Mul(a, n), each(a, n, times))
		}
		for n := 0; n <= 6; n++ {
			want(t, "Clamp", a, n, span.Clamp(a, n), each(a, n, clamped))
		}
	}
}

// P18.1: Join, Add and Sub of spans at the edges: what would be beyond is the nearest one.
func TestEdges(t *testing.T) {
	l := spans()
	for _, a := range l {
		for _, b := range l {
			want(t, "Join", a, b, span.Join(a, b), least([]int{a.Lo, a.Hi, b.Lo, b.Hi}))
			want(t, "Add", a, b, span.Add(a, b), least([]int{plus(a.Lo, b.Lo), plus(a.Hi, b.Hi)}))
			want(t, "Sub", a, b, span.Sub(a, b), least([]int{less(a.Lo, b.Hi), less(a.Hi, b.Lo)}))
		}
	}
}

// P18.1: Mul and Clamp of spans at the edges: also where the product is beyond every int.
func TestMulEdges(t *testing.T) {
	numbers := []int{-1 << 31, -1<<31 + 1, -1 << 30, -513, -512, -3, -2, -1, 0, 1, 2, 3, 511, 512, 1 << 9, 1<<9 + 1, 1 << 30, 1<<31 - 1, 1 << 31}
	for _, a := range spans() {
		for _, n := range numbers {
			want(t, "Mul", a, n, span.Mul(a, n), each(a, n, times))
			if n >= 0 {
				want(t, "Clamp", a, n, span.Clamp(a, n), each(a, n, clamped))
			}
		}
		want(t, "Clamp", a, math.MaxInt, span.Clamp(a, math.MaxInt), each(a, math.MaxInt, clamped))
	}
}

// P18.1: Mul of one number that is just within, or beyond: the product is right to one.
func TestMulJust(t *testing.T) {
	for _, n := range []int{1, 2, 3, 5, 7, 512, 1000, 1<<31 - 1, 1 << 31} {
		for _, x := range []int{high / n, high/n + 1, high/n - 1} {
			for _, signs := range [][2]int{{1, 1}, {1, -1}, {-1, 1}, {-1, -1}} {
				a, m := span.One(x*signs[0]), n*signs[1]
				want(t, "Mul", a, m, span.Mul(a, m), span.One(times(a.Lo, m)))
			}
		}
	}
}

// by chance: a number, of any greatness.
func chance(r *rand.Rand) int {
	n := r.Intn(2 << r.Intn(40))
	if r.Intn(2) == 0 {
		return -n
	}
	return n
}

// by chance: a right span.
func span1(r *rand.Rand) span.Span {
	x, y := span.Cap(chance(r)), span.Cap(chance(r))
	return span.Span{Lo: min(x, y), Hi: max(x, y)}
}

// P18.1: by chance; what comes of right spans is right, and has what comes of any numbers of theirs.
func TestChance(t *testing.T) {
	r := rand.New(rand.NewSource(18))
	for range 20000 {
		a, b, n := span1(r), span1(r), chance(r)%(1<<31+1)
		want(t, "Join", a, b, span.Join(a, b), least([]int{a.Lo, a.Hi, b.Lo, b.Hi}))
		want(t, "Add", a, b, span.Add(a, b), least([]int{plus(a.Lo, b.Lo), plus(a.Hi, b.Hi)}))
		want(t, "Sub", a, b, span.Sub(a, b), least([]int{less(a.Lo, b.Hi), less(a.Hi, b.Lo)}))
		want(t, "Mul", a, n, span.Mul(a, n), least([]int{times(a.Lo, n), times(a.Hi, n)}))
		x, y := a.Lo+r.Intn(a.Hi-a.Lo+1), b.Lo+r.Intn(b.Hi-b.Lo+1)
		if !span.Add(a, b).Has(plus(x, y)) || !span.Sub(a, b).Has(less(x, y)) || !span.Mul(a, n).Has(times(x, n)) {
			t.Error(a, b, n, x, y)
		}
		if n >= 0 && !span.Clamp(a, n).Has(clamped(x, n)) {
			t.Error(a, n, x)
		}
	}
}

// within by the document's words, number by number.
func within(a span.Span, off, size, bound int) bool {
	for x := a.Lo; x <= a.Hi; x++ {
		if x+off < 0 || x+off+size > bound {
			return false
		}
	}
	return true
}

// P18.2: Within, of all small spans.
func TestWithinSmall(t *testing.T) {
	for _, a := range small(5) {
		for off := -6; off <= 6; off++ {
			for size := range 4 {
				for bound := range 10 {
					if got := span.Within(a, off, size, bound); got != within(a, off, size, bound) {
						t.Errorf("Within(%v, %d, %d, %d) = %v", a, off, size, bound, got)
					}
				}
			}
		}
	}
}

// P18.2: Within, at the edges of all that it may be asked.
func TestWithinEdges(t *testing.T) {
	for _, c := range []struct {
		a                span.Span
		off, size, bound int
		want             bool
	}{
		{span.Span{Lo: 0, Hi: 511}, 0, 1, 512, true},
		{span.Span{Lo: 0, Hi: 511}, 0, 2, 512, false},
		{span.Span{Lo: 0, Hi: 512}, 0, 1, 512, false},
		{span.Span{Lo: 0, Hi: 512}, 0, 0, 512, true},
		{span.Span{Lo: -1, Hi: 511}, 0, 1, 512, false},
		{span.Span{Lo: -1, Hi: 510}, 1, 1, 512, true},
		{span.One(0), 0, 0, 0, true},
		{span.One(0), 0, 1, 0, false},
		{span.One(1), -1, 0, 0, true},
		{span.One(1), -2, 0, 0, false},
		{span.One(1 << 31), -1 << 31, 1 << 31, 1 << 31, true},
		{span.One(1<<31 + 1), -1 << 31, 1 << 31, 1 << 31, false},
		{span.One(1<<31 - 1), -1 << 31, 0, 1 << 31, false},
		{span.One(-1 << 31), 1 << 31, 1 << 31, 1 << 31, true},
		{span.One(-1<<31 - 1), 1 << 31, 0, 1 << 31, false},
		{span.Span{Lo: -1 << 31, Hi: 0}, 1 << 31, 0, 1 << 31, true},
		{span.Span{Lo: -1 << 31, Hi: 1}, 1 << 31, 0, 1 << 31, false},
		{span.Top(), 0, 0, 1 << 31, false},
		{span.Span{Lo: 0, Hi: high}, 0, 0, 1 << 31, false},
		{span.Span{Lo: low, Hi: 0}, 0, 0, 1 << 31, false},
		{span.Top(), 1 << 31, 1 << 31, 1 << 31, false},
		{span.Top(), -1 << 31, 0, 0, false},
	} {
		if got := span.Within(c.a, c.off, c.size, c.bound); got != c.want {
			t.Errorf("Within(%v, %d, %d, %d) = %v", c.a, c.off, c.size, c.bound, got)
		}
	}
}

// P18.2: Within, of spans that aren't right: all of their numbers count, and of none all is so.
func TestWithinWrong(t *testing.T) {
	for _, a := range []span.Span{{math.MinInt, math.MaxInt}, {math.MinInt, 0}, {0, math.MaxInt}, {math.MinInt, math.MinInt}, {math.MaxInt, math.MaxInt}} {
		for _, off := range []int{-1 << 31, -1, 0, 1, 1 << 31} {
			if span.Within(a, off, 1, 1<<31) {
				t.Error(a, off)
			}
		}
	}
	for _, a := range []span.Span{{3, 2}, {math.MaxInt, math.MinInt}, {-5, -6}} {
		if !span.Within(a, 0, 1, 0) {
			t.Error(a)
		}
	}
}

// Every int may be handed in: all calls end.
func TestAnyInts(t *testing.T) {
	ints := append(append([]int{}, far...), low, -1, 0, 1, high)
	for _, x := range ints {
		for _, y := range ints {
			a := span.Span{Lo: x, Hi: y}
			for _, n := range ints {
				b := span.Span{Lo: n, Hi: x}
				span.Join(a, b)
				span.Add(a, b)
				span.Sub(a, b)
				span.Mul(a, n)
				span.Clamp(a, n)
				span.Within(a, n, x, y)
			}
		}
	}
	for _, a := range spans() {
		for _, n := range far {
			want(t, "Mul", a, n, span.Mul(a, n), each(a, n, times))
		}
	}
}

package check_test

import (
	"math/rand"
	"reflect"
	"slices"
	"testing"

	"posthorse/api"
	"posthorse/check"
	"posthorse/code"
	"posthorse/span"
)

// twin is layer 19 by the document's words: each question is asked anew from the first instruction on.
type twin struct {
	l    []code.Ins
	told map[place]known // answers of ahead
	come map[int]bool
}

type place struct{ at, r int }

type known struct {
	has  bool
	span span.Span
}

// end that goes with the Loop at a place; -1 where none does.
func (w *twin) end(at int) int {
	depth := 0
	for i := at; i < len(w.l); i++ {
		switch w.l[i].Op {
		case code.Loop:
			depth++
		case code.End:
			depth--
		}
		if depth == 0 {
			return i
		}
	}
	return -1
}

// loops in whose bodies an instruction is.
func (w *twin) loops(at int) (l []int) {
	for i := range at {
		if w.l[i].Op == code.Loop && w.end(i) >= at {
			l = append(l, i)
		}
	}
	return l
}

// wrongLoop: where it first shows; -1 where none is wrong.
func (w *twin) wrongLoop() int {
	for i, x := range w.l {
		open := 0
		for _, y := range w.l[:i] {
			switch y.Op {
			case code.Loop:
				open++
			case code.End:
				open--
			}
		}
		if x.Op == code.End && open == 0 || x.Op == code.Loop && open == 3 {
			return i
		}
	}
	for i, x := range w.l {
		if x.Op == code.Loop && w.end(i) < 0 {
			return i
		}
	}
	return -1
}

// comers: by which instructions one is come to.
func (w *twin) comers(at int) (l []int) {
	for i := range at {
		x := w.l[i]
		next := i+1 == at && x.Op != code.Jump && x.Op != code.Exit
		if w.comes(i) && (next || code.Jumps(x.Op) && x.Imm == at) {
			l = append(l, i)
		}
	}
	return l
}

// comes: is an instruction ever come to?
func (w *twin) comes(at int) bool {
	c, ok := w.come[at]
	if !ok {
		c = at == 0 || len(w.comers(at)) > 0
		w.come[at] = c
	}
	return c
}

// ahead: what is known of a register ahead of an instruction.
func (w *twin) ahead(at, r int) known {
	k, ok := w.told[place{at, r}]
	if ok {
		return k
	}
	if at == 0 && r == 1 {
		k = known{true, span.Span{Lo: 0, Hi: 16}}
	}
	for i, from := range w.comers(at) {
		b := w.behind(from, r)
		switch {
		case i == 0:
			k = b
		case k.has && b.has:
			k.span = span.Join(k.span, b.span)
		default:
			k = known{}
		}
	}
	w.told[place{at, r}] = k
	return k
}

// writes: does an instruction write a register?
func writes(x code.Ins, r int) bool {
	return slices.Contains([]int{0, 1, 2, 3, 4, 5, 6, 7, 8, 9, 10}, x.Op) && x.D == r || x.Op == 19 && x.Imm == 1 && r == 0
}

// behind: what is known of a register behind an instruction that is come to.
func (w *twin) behind(at, r int) known {
	x, k := w.l[at], w.ahead(at, r)
	if x.Op == code.Loop {
		for _, y := range w.l[at+1 : w.end(at)] {
			if writes(y, r) && k.has {
				k.span = span.Top()
			}
		}
		return k
	}
	if !writes(x, r) {
		return k
	}
	d, s, n := w.ahead(at, x.D).span, w.ahead(at, x.S).span, span.One(x.Imm)
	byOp := []span.Span{n, s, span.Add(d, s), span.Sub(d, s), span.Add(d, n), span.Mul(d, x.Imm), {}, to(0, 255), to(0, 65535), to(0, 255), to(0, 255)}
	switch x.Op {
	case code.Clamp:
		return known{true, span.Clamp(d, x.Imm)}
	case code.Call:
		return known{true, to(-1, 1)}
	}
	return known{true, byOp[x.Op]}
}

// needs: is what an instruction needs so?
func (w *twin) needs(at int) bool {
	x := w.l[at]
	d, s := w.ahead(at, x.D), w.ahead(at, x.S)
	r0, r2, r3 := w.ahead(at, 0), w.ahead(at, 2), w.ahead(at, 3)
	in := func(k known, size, bound int) bool {
		return k.has && k.span.Lo+x.Imm >= 0 && k.span.Hi+x.Imm+size <= bound
	}
	switch x.Op {
	case 1:
		return s.has
	case 2, 3, 13, 14, 15, 16:
		return d.has && s.has
	case 4, 5, 6:
		return d.has
	case 7, 8:
		return in(s, x.Op-6, 512)
	case 9:
		return in(s, 1, 16)
	case 10:
		return in(s, 1, 64)
	case 11:
		return s.has && in(d, 1, 64)
	case 19:
		if x.Imm == 3 {
			return r2.has
		}
		return r2.has && r3.has && r3.span.Lo >= 0 && r3.span.Hi <= []int{0, 16, 24}[x.Imm] && r2.span.Lo >= 0 && r2.span.Hi+r3.span.Hi <= 512
	case 20:
		return r0.has
	}
	return true
}

// jumpWrong: is it a jump to where it may not go?
func (w *twin) jumpWrong(at int) bool {
	x := w.l[at]
	if !code.Jumps(x.Op) {
		return false
	}
	if x.Imm <= at || x.Imm >= len(w.l) {
		return true
	}
	own := w.loops(at)
	return slices.ContainsFunc(w.loops(x.Imm), func(loop int) bool { return !slices.Contains(own, loop) })
}

// program: the answer.
func (w *twin) program() (check.Verdict, int, error) {
	if _, err := code.Put(w.l); err != nil {
		return check.Verdict{}, 0, err
	}
	if at := w.wrongLoop(); at >= 0 {
		return check.Verdict{}, at, api.ErrReject
	}
	if len(w.l) == 0 {
		return check.Verdict{}, 0, api.ErrReject
	}
	var v check.Verdict
	for at, x := range w.l {
		on := x.Op != code.Jump && x.Op != code.Exit && at+1 == len(w.l)
		if w.jumpWrong(at) || w.comes(at) && (!w.needs(at) || on) {
			return check.Verdict{}, at, api.ErrReject
		}
		often := 1
		for _, loop := range w.loops(at) {
			often *= w.l[loop].Imm
		}
		v.Fuel += often
		var k [8]bool
		var s [8]span.Span
		for r := range 8 {
			a := w.ahead(at, r)
			k[r], s[r] = a.has, a.span
		}
		v.Known, v.Spans = append(v.Known, k), append(v.Spans, s)
	}
	if v.Fuel > 4096 {
		return check.Verdict{}, 0, api.ErrFuel
	}
	return v, 0, nil
}

// maker of programs by chance, most of which may be run.
type maker struct {
	r *rand.Rand
	l []code.Ins
}

func (m *maker) put(x ...code.Ins) { m.l = append(m.l, x...) }

// register by chance, of few, so that they meet.
func (m *maker) register() int { return []int{0, 1, 2, 3, 3, 4, 7}[m.r.Intn(7)] }

func (m *maker) number() int {
	return []int{-1 << 31, -513, -9, -1, 0, 0, 1, 1, 2, 3, 5, 15, 16, 17, 63, 64, 511, 512, 1<<31 - 1}[m.r.Intn(19)]
}

// part of a program, with so much room for loops.
func (m *maker) part(room int) {
	d, s := m.register(), m.register()
	off := m.r.Intn(40)
	switch m.r.Intn(16) {
	case 0, 1:
		m.put(set(d, m.number()))
	case 2, 3:
		m.put(of(code.Move+m.r.Intn(3), d, s))
	case 4:
		m.put(with(code.AddI+m.r.Intn(2), d, m.number()))
	case 5:
		m.put(with(code.Clamp, d, m.r.Intn(600)))
	case 6:
		m.put(with(code.Clamp, s, 511-off), look(code.Load, d, s, off))
	case 7:
		m.put(with(code.Clamp, s, 510-off), look(code.Load2, d, s, off))
	case 8:
		m.put(with(code.Clamp, s, 9), look(code.LoadK+m.r.Intn(2), d, s, m.r.Intn(8)))
	case 9:
		m.put(with(code.Clamp, d, 24), store(d, s, off))
	case 10:
		m.put(with(code.Clamp, 2, 480+m.r.Intn(20)), with(code.Clamp, 3, 12+m.r.Intn(6)), call(1+m.r.Intn(3)))
	case 11, 12:
		m.put(branch(code.Jump+m.r.Intn(5), d, s, len(m.l)+1+m.r.Intn(6)))
		if x := &m.l[len(m.l)-1]; x.Op == code.Jump {
			x.D, x.S = 0, 0
		}
	case 13, 14:
		if room > 0 {
			m.put(loop([]int{1, 2, 3, 8, 64}[m.r.Intn(5)]))
			m.parts(room-1, m.r.Intn(5))
			m.put(end())
		}
	case 15:
		m.put(exit())
	}
}

func (m *maker) parts(room, n int) {
	for range n {
		m.part(room)
	}
}

// make a program; of some one instruction is another one, or isn't there.
func (m *maker) make() []code.Ins {
	m.l = nil
	for _, r := range []int{0, 2, 3, 4, 7} {
		if m.r.Intn(12) > 0 {
			m.put(set(r, m.r.Intn(400)))
		}
	}
	m.parts(3, 1+m.r.Intn(12))
	m.put(set(0, 1), exit())
	at := m.r.Intn(len(m.l))
	switch m.r.Intn(12) {
	case 0:
		m.l = slices.Delete(m.l, at, at+1)
	case 1:
		x := &m.l[at]
		x.Op, x.Imm = m.r.Intn(22), m.r.Intn(30)
	case 2:
		m.l[at].Imm += m.r.Intn(5) - 2
	case 3:
		m.l = slices.Insert(m.l, at, []code.Ins{loop(2), end(), exit()}[m.r.Intn(3)])
	}
	return m.l
}

// P19.1: by chance: the answer is the twin's, and all kinds of answers come.
func TestTwin(t *testing.T) {
	m := &maker{r: rand.New(rand.NewSource(19))}
	count := map[error]int{}
	for range 40000 {
		l := slices.Clone(m.make())
		was := slices.Clone(l)
		v, at, err := check.Program(l)
		w := &twin{l: was, told: map[place]known{}, come: map[int]bool{}}
		wantV, wantAt, want := w.program()
		count[want]++
		if at != wantAt || err != want || v.Fuel != wantV.Fuel {
			t.Fatalf("%v: %d, %d, %v, want %d, %d, %v", l, v.Fuel, at, err, wantV.Fuel, wantAt, want)
		}
		if err == nil && !reflect.DeepEqual(v, wantV) {
			t.Fatalf("%v: %v, want %v", l, v, wantV)
		}
		if !slices.Equal(l, was) {
			t.Fatal("changed", was)
		}
	}
	if count[nil] < 4000 || count[api.ErrReject] < 4000 || count[api.ErrFuel] < 100 || count[api.ErrArg] < 200 {
		t.Error(count)
	}
}

package run_test

import (
	"math/big"
	"math/rand"
	"slices"
	"strings"
	"testing"

	"posthorse/api"
	"posthorse/check"
	"posthorse/code"
	"posthorse/run"
)

// twin is a run by the document's words, in numbers that have no end.
type twin struct {
	l         []code.Ins
	page, key string
	scratch   run.Scratch
	reg       [8]*big.Int
	begun     []int // the places of the Loops that aren't over
	left      []int
	seen      func(at int, reg [8]*big.Int) // told ahead of each step
}

// capped: the nearest number from -2^40 to 2^40.
func capped(n *big.Int) *big.Int {
	most := new(big.Int).Lsh(big.NewInt(1), 40)
	if n.CmpAbs(most) <= 0 {
		return n
	}
	if n.Sign() < 0 {
		return most.Neg(most)
	}
	return most
}

// inBody: is a place behind a Loop, up to the End that goes with it?
func (w *twin) inBody(loop, at int) bool {
	depth := 0
	for i := loop; i < at; i++ {
		switch w.l[i].Op {
		case code.Loop:
			depth++
		case code.End:
			depth--
		}
		if depth == 0 {
			return false
		}
	}
	return true
}

// bytes of a text from a number and one more on, if all of them are there.
func bytes(s string, at *big.Int, off, n int) (string, bool) {
	from := new(big.Int).Add(at, big.NewInt(int64(off)))
	if n < 0 || from.Sign() < 0 || from.Cmp(big.NewInt(int64(len(s)-n))) > 0 {
		return "", false
	}
	return s[from.Int64():][:n], true
}

func number(s string) *big.Int {
	n := new(big.Int)
	for i := len(s) - 1; i >= 0; i-- {
		n.Add(n.Lsh(n, 8), big.NewInt(int64(s[i])))
	}
	return n
}

// run of at most so many steps.
func (w *twin) run(fuel int) (run.Result, error) {
	for r := range w.reg {
		w.reg[r] = big.NewInt(0)
	}
	w.reg[1] = big.NewInt(int64(len(w.key)))
	var found run.Result
	at, steps := 0, 0
	for at < len(w.l) {
		if steps >= fuel {
			return run.Result{Steps: steps}, api.ErrFuel
		}
		w.seen(at, w.reg)
		steps++
		x := w.l[at]
		if !code.Right(x) {
			return run.Result{Steps: steps}, api.ErrAbort
		}
		if x.Op == code.Exit {
			found.Code, found.Steps = int(w.reg[0].Int64()), steps
			return found, nil
		}
		next, ok := w.step(at, x, &found)
		if !ok {
			return run.Result{Steps: steps}, api.ErrAbort
		}
		at = next
	}
	return run.Result{Steps: steps}, api.ErrAbort
}

// step: the place of the instruction that comes next, and whether the run goes on.
func (w *twin) step(at int, x code.Ins, found *run.Result) (int, bool) {
	d, s, n := w.reg[x.D], w.reg[x.S], big.NewInt(int64(x.Imm))
	came, ok := d, true
	var b string
	padded := (w.key + strings.Repeat("\x00", 16))[:16]
	switch x.Op {
	case code.Set:
		came = n
	case code.Move:
		came = s
	case code.Add:
		came = new(big.Int).Add(d, s)
	case code.Sub:
		came = new(big.Int).Sub(d, s)
	case code.AddI:
		came = new(big.Int).Add(d, n)
	case code.MulI:
		came = new(big.Int).Mul(d, n)
	case code.Clamp:
		if d.Sign() < 0 {
			came = big.NewInt(0)
		} else if d.Cmp(n) > 0 {
			came = n
		}
	case code.Load, code.Load2:
		b, ok = bytes(w.page, s, x.Imm, x.Op-6)
		came = number(b)
	case code.LoadK:
		b, ok = bytes(padded, s, x.Imm, 1)
		came = number(b)
	case code.LoadS:
		b, ok = bytes(string(w.scratch[:]), s, x.Imm, 1)
		came = number(b)
	case code.StoreS:
		if _, ok = bytes(string(w.scratch[:]), d, x.Imm, 1); ok {
			w.scratch[d.Int64()+int64(x.Imm)] = byte(new(big.Int).Mod(s, big.NewInt(256)).Int64())
		}
	case code.Call:
		ok = w.call(x.Imm, found)
		came = w.reg[0] // x.D is 0
	default:
		return w.flow(at, x)
	}
	w.reg[x.D] = capped(came)
	return at + 1, ok
}

// call a helper.
func (w *twin) call(helper int, found *run.Result) bool {
	if helper == 3 {
		found.Next = int(w.reg[2].Int64())
		return true
	}
	n := w.reg[3].Int64()
	if n < 0 || n > 16 && helper == 1 || n > 24 {
		return false
	}
	b, ok := bytes(w.page, w.reg[2], 0, int(n))
	if ok && helper == 1 {
		w.reg[0] = big.NewInt(int64(strings.Compare(w.key, b)))
	} else if ok {
		found.Value = b
	}
	return ok
}

// flow: jumps and loops.
func (w *twin) flow(at int, x code.Ins) (int, bool) {
	c := w.reg[x.D].Cmp(w.reg[x.S])
	last := len(w.begun) - 1
	switch x.Op {
	case code.Loop:
		w.begun, w.left = append(w.begun, at), append(w.left, x.Imm)
		return at + 1, last < 2
	case code.End:
		if last < 0 {
			return 0, false
		}
		w.left[last]--
		if w.left[last] > 0 {
			return w.begun[last] + 1, true
		}
		w.begun, w.left = w.begun[:last], w.left[:last]
		return at + 1, true
	}
	goes := []bool{true, c == 0, c != 0, c < 0, c <= 0}[x.Op-12]
	if !goes {
		return at + 1, true
	}
	if x.Imm <= at || x.Imm >= len(w.l) {
		return 0, false
	}
	for ; last >= 0 && !w.inBody(w.begun[last], x.Imm); last-- {
		w.begun, w.left = w.begun[:last], w.left[:last]
	}
	return x.Imm, true
}

// same: does a run answer what its twin does, and leave the same scratch?
func same(t *testing.T, w *twin, fuel int) (run.Result, error) {
	t.Helper()
	s, was := w.scratch, slices.Clone(w.l)
	got, err := run.Program(w.l, w.page, w.key, &s, fuel)
	want, wantErr := w.run(fuel)
	if got != want || err != wantErr || s != w.scratch || !slices.Equal(w.l, was) {
		t.Fatalf("%v for %q with %d: %+v, %v, want %+v, %v", w.l, w.key, fuel, got, err, want, wantErr)
	}
	return got, err
}

// any text of n bytes, by chance; most are low.
func text(r *rand.Rand, n int) string {
	b := make([]byte, n)
	for i := range b {
		b[i] = byte(r.Intn([]int{2, 4, 256}[r.Intn(3)]))
	}
	return string(b)
}

// given: a twin with a page, a key and a scratch by chance.
func given(r *rand.Rand, l []code.Ins) *twin {
	w := &twin{l: l, page: text(r, 512), key: text(r, 1+r.Intn(16)), seen: func(int, [8]*big.Int) {}}
	copy(w.scratch[:], text(r, 64*r.Intn(2)))
	return w
}

// instruction by chance, that fits into a program of so many.
func instruction(r *rand.Rand, n int) code.Ins {
	register := func() int { return r.Intn(1 + r.Intn(8)) }
	numbers := []int{-1 << 31, -700, -2, -1, 0, 0, 0, 1, 1, 2, 3, 7, 12, 16, 60, 100, 500, 511, 1<<31 - 1}
	x := code.Ins{Op: r.Intn(20)}
	if r.Intn(40) == 0 {
		x.Op = code.Exit
	}
	switch {
	case code.Jumps(x.Op):
		x.Imm = r.Intn(n + 1)
	case x.Op == code.Loop:
		x.Imm = 1 + r.Intn(5)
	case x.Op == code.Call:
		x.Imm = 1 + r.Intn(3)
	case x.Op == code.Clamp:
		x.Imm = r.Intn(600)
	case x.Op < code.Move || x.Op > code.Sub && x.Op < code.Jump:
		x.Imm = numbers[r.Intn(len(numbers))]
	}
	if x.Op != code.Jump && x.Op < code.Loop {
		x.D = register()
	}
	if x.Op != code.Set && x.Op != code.Jump && x.Op < code.Loop && (x.Op < code.AddI || x.Op > code.Clamp) {
		x.S = register()
	}
	return x
}

// P20.1: programs by chance, which nobody has looked at: as the twin does.
func TestTwin(t *testing.T) {
	r := rand.New(rand.NewSource(20))
	count, steps := map[error]int{}, 0
	for range 60000 {
		n := 1 + r.Intn(30)
		var l []code.Ins
		for range n {
			l = append(l, instruction(r, n))
		}
		switch r.Intn(3) {
		case 0:
			l = append(l, code.Ins{Op: code.Exit})
		case 1:
			l[r.Intn(n)].Op = r.Intn(23) - 1
		}
		got, err := same(t, given(r, l), []int{-1, 0, 1, 5, 20, 1000, 1000, 1000}[r.Intn(8)])
		count[err]++
		steps += got.Steps
	}
	if count[nil] < 2000 || count[api.ErrAbort] < 20000 || count[api.ErrFuel] < 5000 || steps < 100000 {
		t.Error(count, steps)
	}
}

// P20.1: the same of programs of loops and jumps alone, in which most looks are within.
func TestTwinFlow(t *testing.T) {
	r := rand.New(rand.NewSource(21))
	count, steps := map[error]int{}, 0
	for range 60000 {
		n := 4 + r.Intn(16)
		var l []code.Ins
		for at := range n {
			x := []code.Ins{loop(1 + r.Intn(4)), end(), jump(at + 1 + r.Intn(5)), with(code.AddI, r.Intn(3), r.Intn(3)-1)}[r.Intn(4)]
			if r.Intn(5) == 0 {
				x = branch(code.JumpEq+r.Intn(4), r.Intn(3), r.Intn(3), at+1+r.Intn(5))
			}
			l = append(l, x)
		}
		got, err := same(t, given(r, append(l, exit())), []int{10, 100, 3000}[r.Intn(3)])
		count[err]++
		steps += got.Steps
	}
	if count[nil] < 5000 || count[api.ErrAbort] < 5000 || count[api.ErrFuel] < 100 {
		t.Error(count, steps)
	}
}

// grow a program that may be run by chance, instruction by instruction: each is put behind, as long as what comes of it, with its loops ended, and an end, may be run.
func grow(r *rand.Rand, n int) ([]code.Ins, check.Verdict) {
	var l []code.Ins
	open := 0
	whole := func(l []code.Ins, open int) []code.Ins {
		return chain(l, times(open, end()), program(set(0, r.Intn(4)), exit()))
	}
	for range n {
		x := instruction(r, len(l)+8)
		more := open
		switch x.Op {
		case code.Loop:
			more++
		case code.End:
			more--
		}
		if more < 0 {
			continue
		}
		if _, _, err := check.Program(whole(append(l, x), more)); err == nil {
			l, open = append(l, x), more
		}
	}
	l = whole(l, open)
	v, _, err := check.Program(l)
	if err != nil {
		return nil, v
	}
	return l, v
}

// P20.2: programs that may be run, grown by chance: no error with the verdict's fuel on any page, and each register's number is in the span in which it is known to be.
func TestHarmless(t *testing.T) {
	r := rand.New(rand.NewSource(22))
	ops, looks, tight := map[int]int{}, 0, 0
	for range 3000 {
		l, v := grow(r, 20+r.Intn(120))
		if l == nil {
			t.Fatal("what has grown may not be run")
		}
		for range 5 {
			w := given(r, l)
			w.seen = func(at int, reg [8]*big.Int) {
				ops[l[at].Op]++
				for i, n := range reg {
					if !v.Known[at][i] {
						continue
					}
					looks++
					if !n.IsInt64() || !v.Spans[at][i].Has(int(n.Int64())) {
						t.Fatalf("%v: ahead of %d register %d is %v, not in %v", l, at, i, n, v.Spans[at][i])
					}
				}
			}
			got, err := same(t, w, v.Fuel)
			if err != nil || got.Steps > v.Fuel {
				t.Fatalf("%v: %+v, %v", l, got, err)
			}
			if got.Steps == v.Fuel {
				tight++
			}
		}
	}
	for op := code.Set; op <= code.Exit; op++ {
		if ops[op] < 100 {
			t.Error("too few of", op, ops[op])
		}
	}
	if looks < 100000 || tight < 100 {
		t.Error(looks, tight)
	}
}

// P20.2: what a program that may be run ends with hangs on no more fuel than the verdict's, and one step less than it makes is too few.
func TestEnough(t *testing.T) {
	r := rand.New(rand.NewSource(23))
	for range 1000 {
		l, v := grow(r, 60)
		w := given(r, l)
		a, b := w.scratch, w.scratch
		got, err := run.Program(l, w.page, w.key, &a, v.Fuel)
		more, errMore := run.Program(l, w.page, w.key, &b, much)
		if err != nil || errMore != nil || got != more || a != b {
			t.Fatal(l, got, err, more, errMore)
		}
		if less, err := run.Program(l, w.page, w.key, &b, got.Steps-1); err != api.ErrFuel || less != (run.Result{Steps: got.Steps - 1}) {
			t.Fatal(l, less, err)
		}
	}
}

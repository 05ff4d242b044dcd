package run_test

import (
	"math"
	"slices"
	"strings"
	"testing"

	"posthorse/api"
	"posthorse/code"
	"posthorse/run"
)

// P20.1: the document's example.
func TestExample(t *testing.T) {
	ends(t, program(set(0, 2), exit()), run.Result{Code: 2, Steps: 2})
}

// The ends of a run have the document's numbers, and the scratch its bytes.
func TestNumbers(t *testing.T) {
	if run.Next != 0 || run.Found != 1 || run.None != 2 || len(run.Scratch{}) != api.MaxScratch {
		t.Error(run.Next, run.Found, run.None)
	}
}

// P20.1: ErrArg, ahead of all else, and nothing beside it.
func TestArguments(t *testing.T) {
	l := program(set(0, 2), store(1, 0, 0), exit())
	var s run.Scratch
	for _, c := range []struct {
		page, key string
		s         *run.Scratch
	}{
		{"", "k", &s},
		{page()[1:], "k", &s},
		{page() + "x", "k", &s},
		{page() + page(), "k", &s},
		{page(), "", &s},
		{page(), "12345678901234567", &s},
		{page(), strings.Repeat("k", 1000), &s},
		{page(), "k", nil},
		{"", "", nil},
	} {
		for _, fuel := range []int{-1, 0, 100} {
			for _, l := range [][]code.Ins{l, nil, program(end())} {
				if r, err := run.Program(l, c.page, c.key, c.s, fuel); r != (run.Result{}) || err != api.ErrArg || s != (run.Scratch{}) {
					t.Errorf("%d bytes, key %q: %+v, %v, %v", len(c.page), c.key, r, err, s)
				}
			}
		}
	}
	for _, key := range []string{"k", "1234567890123456"} {
		goes(t, l, key, &s, 3, run.Result{Code: 2, Steps: 3}, nil)
	}
}

// P20.1: ErrFuel, where more steps would be made: the steps that were made, and nothing else.
func TestFuel(t *testing.T) {
	// Eight steps, with a value and a next page ahead of the last two.
	l := program(set(2, 3), set(3, 2), call(2), call(3), loop(2), end(), exit())
	done := run.Result{Value: "\x03\x04", Next: 3, Steps: 8}
	for fuel := range 8 {
		breaks(t, l, fuel, fuel, api.ErrFuel)
	}
	for _, fuel := range []int{8, 9, 4096, math.MaxInt} {
		var s run.Scratch
		goes(t, l, "key", &s, fuel, done, nil)
	}
	for _, fuel := range []int{-1, -100, math.MinInt} {
		breaks(t, l, fuel, 0, api.ErrFuel)
	}
	// An instruction at which ErrAbort comes up needs a step; a place at which none is needs none.
	breaks(t, program(set(0, 2), end()), 1, 1, api.ErrFuel)
	breaks(t, program(set(0, 2), end()), 2, 2, api.ErrAbort)
	breaks(t, program(set(0, 2)), 0, 0, api.ErrFuel)
	breaks(t, program(set(0, 2)), 1, 1, api.ErrAbort)
	breaks(t, program(set(0, 2)), 2, 1, api.ErrAbort)
	breaks(t, nil, 0, 0, api.ErrAbort)
	breaks(t, []code.Ins{}, 100, 0, api.ErrAbort)
}

// P20.1: the longest run of loops within one another, to the step.
func TestFuelLoops(t *testing.T) {
	l := program(loop(64), loop(64), loop(64), end(), end(), end(), exit())
	n := 1 + 64 + 64*64 + 64*64*64 + 64*64 + 64 + 1
	var s run.Scratch
	goes(t, l, "key", &s, n, run.Result{Steps: n}, nil)
	breaks(t, l, n-1, n-1, api.ErrFuel)
}

// P20.1: an instruction that isn't right aborts the run, when it is come to.
func TestNotRight(t *testing.T) {
	for _, x := range []code.Ins{
		{Op: -1}, {Op: 21}, {Op: math.MinInt}, {Op: math.MaxInt}, set(8, 0), set(-1, 0), set(math.MaxInt, 0), set(0, 1<<31), set(0, math.MinInt), {Op: code.Set, S: 1},
		of(code.Move, 0, 8), of(code.Add, -1, 0), {Op: code.Sub, Imm: 1}, with(code.AddI, 8, 0), with(code.MulI, 0, -1<<31-1), with(code.Clamp, 0, -1),
		look(code.Load, 0, 8, 0), look(code.LoadS, 8, 0, 0), store(8, 0, 0), store(0, 8, 0), jump(128), jump(-1), branch(code.JumpLt, 0, 8, 2), branch(code.JumpNe, 0, 0, 128), {Op: code.Jump, D: 1, Imm: 2},
		loop(0), loop(65), loop(-1), call(0), call(4), {Op: code.End, Imm: 1}, {Op: code.Exit, D: 1},
	} {
		breaks(t, program(set(0, 2), x, exit()), much, 2, api.ErrAbort)
		breaks(t, program(set(0, 2), x, exit()), 1, 1, api.ErrFuel)
		ends(t, program(set(0, 2), exit(), x), run.Result{Code: 2, Steps: 2})
		ends(t, program(set(0, 2), jump(3), x, exit()), run.Result{Code: 2, Steps: 3})
	}
}

// P20.1: a run on a program that is longer than MaxCode, too.
func TestLong(t *testing.T) {
	l := chain(times(1000, with(code.AddI, 0, 3)), program(exit()))
	ends(t, l, run.Result{Code: 3000, Steps: 1001})
	l = chain(program(loop(3)), times(500, with(code.AddI, 0, 1)), program(branch(code.JumpEq, 0, 1, 5), end(), exit()))
	ends(t, l, run.Result{Code: 1500, Steps: 1 + 3*502 + 1})
}

// P20.1: at first register 1 has the key's length, all others have 0.
func TestAtFirst(t *testing.T) {
	for n := 1; n <= api.MaxKey; n++ {
		for r := range 8 {
			want := 0
			if r == 1 {
				want = n
			}
			var s run.Scratch
			goes(t, program(of(code.Move, 0, r), exit()), strings.Repeat("k", n), &s, 2, run.Result{Code: want, Steps: 2}, nil)
		}
	}
}

// P20.1: what reckons.
func TestReckon(t *testing.T) {
	for _, n := range []int{-1 << 31, -5, -1, 0, 1, 7, 1<<31 - 1} {
		comes(t, n, set(0, n))
		comes(t, n, set(4, n), of(code.Move, 0, 4))
		comes(t, n+9, set(0, 9), with(code.AddI, 0, n))
		comes(t, n*-3, set(0, -3), with(code.MulI, 0, n))
		for _, m := range []int{-1 << 31, -2, 0, 1, 1<<31 - 1} {
			comes(t, m+n, set(0, m), set(7, n), of(code.Add, 0, 7))
			comes(t, m-n, set(0, m), set(7, n), of(code.Sub, 0, 7))
		}
	}
	comes(t, 14, set(0, 7), of(code.Add, 0, 0))
	comes(t, 0, set(0, 7), of(code.Sub, 0, 0))
	comes(t, 7, set(0, 7), of(code.Move, 5, 0))
	for _, c := range []struct{ n, to, want int }{{5, 9, 5}, {9, 9, 9}, {10, 9, 9}, {-1, 9, 0}, {0, 9, 0}, {-1 << 31, 0, 0}, {7, 0, 0}, {1<<31 - 1, 1<<31 - 1, 1<<31 - 1}} {
		comes(t, c.want, set(0, c.n), with(code.Clamp, 0, c.to))
	}
}

// P20.1: what an instruction comes to is its Cap.
func TestCap(t *testing.T) {
	const most = 1 << 40
	up := program(set(0, 1<<31-1), with(code.MulI, 0, 1<<31-1)) // would be 2^62 or so
	down := program(set(0, 1<<31-1), with(code.MulI, 0, -1<<31))
	comes(t, most, up...)
	comes(t, -most, down...)
	comes(t, most, chain(up, program(with(code.AddI, 0, 1)))...)
	comes(t, most-1, chain(up, program(with(code.AddI, 0, -1)))...)
	comes(t, -most, chain(down, program(with(code.AddI, 0, -1)))...)
	comes(t, most, chain(up, program(of(code.Add, 0, 0)))...)
	comes(t, -most, chain(down, program(of(code.Add, 0, 0)))...)
	comes(t, -most, chain(up, program(with(code.MulI, 0, -1)))...)
	comes(t, most, chain(down, program(of(code.Move, 4, 0), of(code.Sub, 5, 4), of(code.Move, 0, 5)))...)
	comes(t, -most, chain(up, program(of(code.Move, 4, 0), with(code.MulI, 0, -1), of(code.Sub, 0, 4)))...)
	// The product is beyond every int, and each sign comes.
	comes(t, most, chain(up, program(with(code.MulI, 0, 1<<31-1)))...)
	comes(t, -most, chain(up, program(with(code.MulI, 0, -1<<31)))...)
	comes(t, most, chain(down, program(with(code.MulI, 0, -1<<31)))...)
	comes(t, 0, chain(down, program(with(code.MulI, 0, 0)))...)
	comes(t, 1<<31-1, chain(up, program(with(code.Clamp, 0, 1<<31-1)))...)
	comes(t, 0, chain(down, program(with(code.Clamp, 0, 1<<31-1)))...)
}

// P20.1: looks at the page, the key and the scratch, at each place that there is, and none that there isn't.
func TestLooks(t *testing.T) {
	var s run.Scratch
	for i := range s {
		s[i] = byte(200 - i)
	}
	key := "abc\xffxyz"
	for _, c := range []struct {
		op, bound int
		want      func(i int) int
	}{
		{code.Load, 512, func(i int) int { return i % 251 }},
		{code.Load2, 511, func(i int) int { return i%251 + (i+1)%251*256 }},
		{code.LoadK, 16, func(i int) int { return int((key + strings.Repeat("\x00", 16))[i]) }},
		{code.LoadS, 64, func(i int) int { return 200 - i }},
	} {
		for i := -3; i < c.bound+3; i++ {
			for _, off := range []int{0, 1, -1, 5, i, -1 << 31, 1<<31 - 1} {
				l := program(set(4, i-off/2), with(code.AddI, 4, off/2-off), look(c.op, 0, 4, off), exit())
				scratch := s
				if i < 0 || i >= c.bound {
					goes(t, l, key, &scratch, much, run.Result{Steps: 3}, api.ErrAbort)
				} else {
					goes(t, l, key, &scratch, much, run.Result{Code: c.want(i), Steps: 4}, nil)
				}
				if scratch != s {
					t.Error("the scratch was written")
				}
			}
		}
		for _, far := range []int{1<<31 - 1, -1 << 31} { // 2^40 and -2^40, from where no Imm leads back
			for _, off := range []int{0, 1<<31 - 1, -1 << 31} {
				breaks(t, program(set(4, 1<<31-1), with(code.MulI, 4, far), look(c.op, 0, 4, off), exit()), much, 3, api.ErrAbort)
			}
		}
	}
	// The lowest byte is the first one.
	comes(t, 0x0201, set(4, 1), look(code.Load2, 0, 4, 0))
}

// P20.1: what is stored, and where; nothing else is written.
func TestStore(t *testing.T) {
	for i := -3; i < 67; i++ {
		for _, n := range []int{0, 1, 255, 256, 300, -1, -256, -257, 1<<31 - 1, -1 << 31} {
			var s, want run.Scratch
			s[9], want[9] = 77, 77
			l := program(set(4, i-7), set(5, n), store(4, 5, 7), exit())
			if i < 0 || i >= 64 {
				goes(t, l, "key", &s, much, run.Result{Steps: 3}, api.ErrAbort)
			} else {
				want[i] = byte((n%256 + 256) % 256)
				goes(t, l, "key", &s, much, run.Result{Steps: 4}, nil)
			}
			if s != want {
				t.Errorf("%d at %d: %v", n, i, s)
			}
		}
	}
	// What was stored is looked at, in the run and in the next one.
	var s run.Scratch
	goes(t, program(set(5, 200), store(1, 5, 0), look(code.LoadS, 0, 1, 0), exit()), "key", &s, much, run.Result{Code: 200, Steps: 4}, nil)
	goes(t, program(look(code.LoadS, 0, 1, 0), exit()), "key", &s, much, run.Result{Code: 200, Steps: 2}, nil)
}

// P20.1: steps that were made have stored what they did, also where the run is broken off behind them.
func TestStoreBroken(t *testing.T) {
	l := program(set(5, 8), store(1, 5, 0), store(5, 5, 0), end())
	for fuel, want := range map[int][2]byte{1: {0, 0}, 2: {8, 0}, 3: {8, 8}} {
		var s run.Scratch
		goes(t, l, "key", &s, fuel, run.Result{Steps: fuel}, api.ErrFuel)
		if s[3] != want[0] || s[8] != want[1] {
			t.Error(fuel, s)
		}
	}
	var s run.Scratch
	goes(t, l, "key", &s, much, run.Result{Steps: 4}, api.ErrAbort)
	if s[3] != 8 || s[8] != 8 {
		t.Error(s)
	}
}

// P20.1: helper 1: the key against bytes of the page.
func TestCompare(t *testing.T) {
	letters := strings.Repeat("abcdefgh", 64)
	for _, c := range []struct {
		key       string
		at, count int
		want      int
	}{
		{"abc", 0, 3, 0},
		{"abc", 8, 3, 0},
		{"abc", 0, 2, 1},
		{"abc", 0, 4, -1},
		{"abc", 1, 3, -1},
		{"abd", 0, 3, 1},
		{"abb", 0, 3, -1},
		{"\xff", 0, 16, 1},
		{"\x00", 0, 1, -1},
		{"abc\x00", 0, 3, 1},
		{"abcdefghabcdefgh", 496, 16, 0},
		{"abcdefghabcdefgh", 0, 16, 0},
		{"gh", 510, 2, 0},
		{"h", 511, 1, 0},
		{"a", 0, 0, 1},
		{"a", 512, 0, 1},
	} {
		var s run.Scratch
		l := program(set(2, c.at), set(3, c.count), set(0, 9), call(1), exit())
		r, err := run.Program(l, letters, c.key, &s, 5)
		if r != (run.Result{Code: c.want, Steps: 5}) || err != nil {
			t.Errorf("%+v: %+v, %v", c, r, err)
		}
	}
}

// P20.1: helpers 2 and 3: the value, and the page that is next, the last ones of several.
func TestValueNext(t *testing.T) {
	p := page()
	ends(t, program(set(2, 9), set(3, 4), call(2), exit()), run.Result{Value: p[9:13], Steps: 4})
	ends(t, program(set(3, 24), call(2), exit()), run.Result{Value: p[:24], Steps: 3})
	ends(t, program(set(2, 488), set(3, 24), call(2), exit()), run.Result{Value: p[488:], Steps: 4})
	ends(t, program(set(2, 512), set(3, 0), call(2), exit()), run.Result{Steps: 4})
	ends(t, program(set(2, 9), set(3, 4), call(2), set(2, 100), call(2), exit()), run.Result{Value: p[100:104], Steps: 6})
	ends(t, program(set(2, 9), set(3, 4), call(2), set(3, 0), call(2), exit()), run.Result{Steps: 6})
	for _, n := range []int{0, 1, 1023, 65535, 1 << 20, -1, -1 << 31, 1<<31 - 1} {
		ends(t, program(set(2, n), call(3), set(2, 5), exit()), run.Result{Next: n, Steps: 4})
		ends(t, program(set(2, 77), call(3), set(2, n), call(3), exit()), run.Result{Next: n, Steps: 5})
	}
	ends(t, program(set(2, 1<<31-1), with(code.MulI, 2, -1<<31), call(3), exit()), run.Result{Next: -1 << 40, Steps: 4})
	// No helper was called: neither.
	ends(t, program(set(2, 9), set(3, 4), set(0, 7), exit()), run.Result{Code: 7, Steps: 4})
	// The helpers leave the registers as they are.
	for helper := 2; helper <= 3; helper++ {
		for r, want := range []int{5, 3, 6, 7, 8} {
			var s run.Scratch
			got, err := run.Program(program(set(0, 5), set(2, 6), set(3, 7), set(4, 8), call(helper), of(code.Move, 0, r), exit()), p, "key", &s, much)
			if got.Code != want || err != nil {
				t.Error(helper, r, got, err)
			}
		}
	}
}

// P20.1: helpers that look at bytes that there aren't, or at too many.
func TestHelperBytes(t *testing.T) {
	for helper, most := range map[int]int{1: 16, 2: 24} {
		for _, c := range []struct {
			at, count int
			ok        bool
		}{
			{0, most, true}, {0, most + 1, false}, {512 - most, most, true}, {513 - most, most, false},
			{511, 1, true}, {512, 1, false}, {511, 2, false}, {512, 0, true}, {-1, 1, false}, {-1, 2, false},
			{0, -1, false}, {5, -1, false}, {1<<31 - 1, 1, false}, {-1 << 31, 1, false}, {0, 1<<31 - 1, false}, {0, -1 << 31, false}, {1<<31 - 1, -1 << 31, false},
		} {
			l := program(set(2, c.at), set(3, c.count), call(helper), set(0, 0), exit())
			var s run.Scratch
			r, err := run.Program(l, page(), "key", &s, much)
			if c.ok && (err != nil || r.Steps != 5) || !c.ok && (err != api.ErrAbort || r != run.Result{Steps: 3}) {
				t.Errorf("helper %d: %+v: %+v, %v", helper, c, r, err)
			}
		}
	}
}

// P20.1: what beside an error was found is not told.
func TestNothingBeside(t *testing.T) {
	l := program(set(2, 9), set(3, 4), call(2), call(3), set(0, 1), end())
	breaks(t, l, much, 6, api.ErrAbort)
	breaks(t, l[:5], much, 5, api.ErrAbort)
	breaks(t, l, 5, 5, api.ErrFuel)
}

// Rules: the room behind the program's length isn't looked at, nor changed.
func TestRoom(t *testing.T) {
	room := program(set(0, 2), exit(), set(0, 3), exit())
	was := slices.Clone(room)
	breaks(t, room[:1], much, 1, api.ErrAbort)
	ends(t, room[:2], run.Result{Code: 2, Steps: 2})
	breaks(t, program(loop(2), jump(2), exit())[:2], much, 2, api.ErrAbort)
	if !slices.Equal(room, was) {
		t.Error(room)
	}
}

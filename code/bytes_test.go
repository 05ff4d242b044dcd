package code_test

import (
	"encoding/binary"
	"math"
	"math/rand"
	"slices"
	"strings"
	"testing"

	"posthorse/api"
	"posthorse/code"
)

// packed: an instruction's bytes by the document's words.
func packed(x code.Ins) string {
	b := []byte{byte(x.Op), byte(x.D), byte(x.S), 0}
	return string(binary.LittleEndian.AppendUint32(b, uint32(x.Imm+1<<31)))
}

// exits: so many instructions.
func exits(n int) []code.Ins {
	l := make([]code.Ins, n)
	for i := range l {
		l[i].Op = code.Exit
	}
	return l
}

// by chance: a program of so many right instructions.
func chance(r *rand.Rand, n int) []code.Ins {
	var l []code.Ins
	for range n {
		f := forms[r.Intn(len(forms))]
		x := code.Ins{Op: f.op, Imm: f.least + r.Intn(f.top-f.least+1)}
		if f.d {
			x.D = r.Intn(8)
		}
		if f.s {
			x.S = r.Intn(8)
		}
		l = append(l, x)
	}
	return l
}

// wantPut: does Put answer those bytes, and Get the program of them?
func wantPut(t *testing.T, l []code.Ins, want string) {
	t.Helper()
	was := slices.Clone(l)
	s, err := code.Put(l)
	if s != want || err != nil {
		t.Errorf("Put(%v) = %x, %v, want %x", l, s, err, want)
	}
	if !slices.Equal(l, was) {
		t.Errorf("Put changed %v to %v", was, l)
	}
	g, err := code.Get(want)
	if !slices.Equal(g, l) || err != nil {
		t.Errorf("Get(%x) = %v, %v, want %v", want, g, err, l)
	}
}

// wantGet: does Get answer that error, and no program?
func wantGet(t *testing.T, s string, want error) {
	t.Helper()
	if l, err := code.Get(s); len(l) != 0 || err != want {
		t.Errorf("Get(%.40x) of %d bytes = %v, %v, want %v", s, len(s), l, err, want)
	}
}

// P17.1: Put and Get of bytes that were made by hand; the document's example is the first.
func TestPutBytes(t *testing.T) {
	wantPut(t, []code.Ins{{Op: code.Set, D: 3, Imm: 5}}, "\x00\x03\x00\x00\x05\x00\x00\x80")
	wantPut(t, nil, "")
	wantPut(t, []code.Ins{}, "")
	wantPut(t, []code.Ins{{Op: code.Set, D: 7, Imm: low}}, "\x00\x07\x00\x00\x00\x00\x00\x00")
	wantPut(t, []code.Ins{{Op: code.AddI, Imm: high}}, "\x04\x00\x00\x00\xff\xff\xff\xff")
	wantPut(t, []code.Ins{{Op: code.MulI, D: 1, Imm: -1}}, "\x05\x01\x00\x00\xff\xff\xff\x7f")
	wantPut(t, []code.Ins{{Op: code.Load2, D: 1, S: 2, Imm: 0x12345678}}, "\x08\x01\x02\x00\x78\x56\x34\x92")
	wantPut(t, []code.Ins{{Op: code.Move, D: 0, S: 7}, {Op: code.JumpLe, D: 4, S: 5, Imm: 127}, {Op: code.Exit}},
		"\x01\x00\x07\x00\x00\x00\x00\x80"+"\x10\x04\x05\x00\x7f\x00\x00\x80"+"\x14\x00\x00\x00\x00\x00\x00\x80")
}

// P17.1: Put and Get of every operation, with numbers at the edges.
func TestPutEdges(t *testing.T) {
	for _, f := range forms {
		edges(f.op, func(x code.Ins) {
			if right(f, x) {
				wantPut(t, []code.Ins{x}, packed(x))
			} else if s, err := code.Put([]code.Ins{x}); s != "" || err != api.ErrArg {
				t.Errorf("Put(%v) = %x, %v", x, s, err)
			}
		})
	}
}

// P17.1: Put and Get of programs by chance, up to MaxCode instructions.
func TestPutChance(t *testing.T) {
	r := rand.New(rand.NewSource(17))
	for _, n := range []int{1, 2, 3, 10, 127, 128} {
		for range 30 {
			l := chance(r, n)
			var want strings.Builder
			for _, x := range l {
				want.WriteString(packed(x))
			}
			wantPut(t, l, want.String())
		}
	}
}

// P17.1: the errors of Put: too long ahead of not right, and nothing beside an error, wherever it is.
func TestPutErrors(t *testing.T) {
	wrong := code.Ins{Op: 21}
	for _, c := range []struct {
		n, wrong int // how many, and at which place one isn't right
		want     error
	}{
		{128, -1, nil},
		{129, -1, api.ErrLong},
		{1000, -1, api.ErrLong},
		{129, 0, api.ErrLong},
		{129, 128, api.ErrLong},
		{128, 0, api.ErrArg},
		{128, 127, api.ErrArg},
		{1, 0, api.ErrArg},
		{3, 1, api.ErrArg},
	} {
		l := exits(c.n)
		if c.wrong >= 0 {
			l[c.wrong] = wrong
		}
		s, err := code.Put(l)
		if err != c.want || err != nil && s != "" || err == nil && len(s) != 8*c.n {
			t.Errorf("%+v: %x, %v", c, s, err)
		}
	}
	for _, x := range []code.Ins{{Op: -1}, {Op: math.MinInt}, {Op: 256}, {D: -1}, {D: 8}, {D: 256}, {S: 1}, {Imm: high + 1}, {Imm: low - 1}, {Op: code.Loop}} {
		if s, err := code.Put([]code.Ins{x}); s != "" || err != api.ErrArg {
			t.Errorf("Put(%v) = %x, %v", x, s, err)
		}
	}
}

// P17.1: Get of what hasn't the form: of each length, and with another byte in the fourth's place, wherever.
func TestGetForm(t *testing.T) {
	s, _ := code.Put(exits(128))
	for n := range len(s) + 1 {
		if n%8 != 0 {
			wantGet(t, s[:n], api.ErrForm)
		} else if l, err := code.Get(s[:n]); len(l) != n/8 || err != nil {
			t.Error(n, l, err)
		}
	}
	for i := 3; i < len(s); i += 8 {
		for _, other := range []string{"\x01", "\x80", "\xff"} {
			wantGet(t, s[:i]+other+s[i+1:], api.ErrForm)
		}
	}
	// Of an instruction that isn't whole the fourth byte counts no less.
	wantGet(t, "\x14\x00\x00\x01", api.ErrForm)
	wantGet(t, "\x14\x00\x00", api.ErrForm)
	wantGet(t, "\x14", api.ErrForm)
}

// P17.1: Get of an instruction that isn't right, at each place.
func TestGetReject(t *testing.T) {
	s, _ := code.Put(exits(128))
	for i := 0; i < len(s); i += 8 {
		wantGet(t, s[:i]+"\x15"+s[i+1:], api.ErrReject)
	}
	for _, x := range []string{
		"\xff\x00\x00\x00\x00\x00\x00\x80",
		"\x00\x08\x00\x00\x05\x00\x00\x80", // the register 8
		"\x00\xff\x00\x00\x05\x00\x00\x80",
		"\x00\x03\x01\x00\x05\x00\x00\x80", // S of Set
		"\x01\x00\x08\x00\x00\x00\x00\x80",
		"\x01\x00\x00\x00\x01\x00\x00\x80", // Imm of Move
		"\x06\x00\x00\x00\xff\xff\xff\x7f", // Clamp to -1
		"\x0c\x00\x00\x00\x80\x00\x00\x80", // Jump to MaxCode
		"\x0c\x00\x00\x00\xff\xff\xff\x7f",
		"\x11\x00\x00\x00\x00\x00\x00\x80", // Loop, no times
		"\x11\x00\x00\x00\x41\x00\x00\x80",
		"\x12\x01\x00\x00\x00\x00\x00\x80",
		"\x13\x00\x00\x00\x04\x00\x00\x80",
		"\x14\x00\x00\x00\x00\x00\x00\x00",
	} {
		wantGet(t, x, api.ErrReject)
		wantGet(t, s[8:]+x, api.ErrReject)
	}
}

// P17.1: which error of Get is told: the form's, then too long, then not right, wherever each of them is.
func TestGetOrder(t *testing.T) {
	const wrong, formless = "\x15\x00\x00\x00\x00\x00\x00\x80", "\x14\x00\x00\x01\x00\x00\x00\x80"
	s, _ := code.Put(exits(128))
	for _, c := range []struct {
		s    string
		want error
	}{
		{s + s[:8], api.ErrLong},
		{strings.Repeat(s, 20), api.ErrLong},
		{wrong + s, api.ErrLong},
		{s + wrong, api.ErrLong},
		{s + s[:7], api.ErrForm},
		{s + s[:15], api.ErrForm},
		{s + formless, api.ErrForm},
		{formless + s, api.ErrForm},
		{strings.Repeat(s, 20) + formless, api.ErrForm},
		{wrong + formless, api.ErrForm},
		{formless + wrong, api.ErrForm},
		{wrong + "\x14", api.ErrForm},
		{wrong + s + formless, api.ErrForm},
		{wrong + s[8:], api.ErrReject},
		{s[8:] + wrong, api.ErrReject},
	} {
		wantGet(t, c.s, c.want)
	}
}

// P17.1: what Get lets through is just what Put makes, of any bytes.
func TestGetChance(t *testing.T) {
	r := rand.New(rand.NewSource(18))
	good := 0
	for range 20000 {
		b := []byte(packed(chance(r, 1)[0]))
		for range r.Intn(3) {
			i, low := r.Intn(8), []byte{0, 1, 2, 3, 7, 8, 20, 21, 64, 127, 128, 255}
			b[i] = low[r.Intn(len(low))]
		}
		l, err := code.Get(string(b))
		x := code.Ins{Op: int(b[0]), D: int(b[1]), S: int(b[2]), Imm: int(binary.LittleEndian.Uint32(b[4:])) - 1<<31}
		switch {
		case b[3] != 0:
			if err != api.ErrForm || len(l) != 0 {
				t.Errorf("%x: %v, %v", b, l, err)
			}
		case x.Op > 20 || !right(forms[x.Op], x):
			if err != api.ErrReject || len(l) != 0 {
				t.Errorf("%x: %v, %v", b, l, err)
			}
		default:
			good++
			if err != nil || len(l) != 1 || l[0] != x {
				t.Errorf("%x: %v, %v", b, l, err)
			}
		}
	}
	if good < 1000 {
		t.Error(good)
	}
}

// Rules: a program that is answered is new memory, and what is behind a list's length stays.
func TestMemory(t *testing.T) {
	s, _ := code.Put(exits(3))
	a, _ := code.Get(s)
	b, _ := code.Get(s)
	a[0].D = 5
	if b[0].D != 0 {
		t.Error("two answers share memory")
	}
	room := exits(8)
	was := slices.Clone(room)
	code.Put(room[:2])
	if !slices.Equal(room, was) {
		t.Error("the room behind was changed")
	}
}

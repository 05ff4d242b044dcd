package asm_test

import (
	"math/big"
	"math/rand"
	"regexp"
	"slices"
	"strconv"
	"strings"
	"testing"

	"posthorse/api"
	"posthorse/asm"
	"posthorse/code"
)

// spoken: the forms of lines, by the document's words.
var (
	spoken = strings.Fields("set move add sub addi muli clamp load load2 loadk loads stores jump jeq jne jlt jle loop end call exit")
	named  = regexp.MustCompile(`^([a-z][a-z0-9]{0,7}):$`)
	line   = regexp.MustCompile(`^([a-z0-9]+)((?: r[0-7])*)((?: (?:0|-?[1-9][0-9]*))?)((?: [a-z][a-z0-9]{0,7})?)$`)
)

// registersOf an operation: how many it has.
func registersOf(op int) int {
	switch {
	case op == 0 || op >= 4 && op <= 6:
		return 1
	case op == 12 || op >= 17:
		return 0
	}
	return 2
}

// twin is P21.2 by the document's words: a text's lines, one by one.
type twin struct {
	program []code.Ins
	goals   []string // the names in the jumps, by their places
	lines   []int    // where the instructions stand
	places  map[string]int
}

// words of a line; false, where it isn't an instruction's.
func (w *twin) words(s string) (x code.Ins, name string, ok bool) {
	m := line.FindStringSubmatch(s)
	if m == nil {
		return x, "", false
	}
	registers, number, name := strings.Fields(m[2]), strings.TrimSpace(m[3]), strings.TrimSpace(m[4])
	x.Op = slices.Index(spoken, m[1])
	// Where a jump's name looks like a register it is the last of those.
	if n := len(registers); x.Op >= 12 && x.Op <= 16 && name == "" && number == "" && n > 0 {
		registers, name = registers[:n-1], registers[n-1]
	}
	if x.Op < 0 || len(registers) != registersOf(x.Op) {
		return x, "", false
	}
	hasName := x.Op >= 12 && x.Op <= 16
	hasNumber := !hasName && x.Op != 18 && x.Op != 20 && (x.Op < 1 || x.Op > 3)
	if hasName != (name != "") || hasNumber != (number != "") {
		return x, "", false
	}
	for i, r := range registers {
		*[]*int{&x.D, &x.S}[i] = int(r[1] - '0')
	}
	if hasNumber {
		n, _ := new(big.Int).SetString(number, 10)
		if n.CmpAbs(big.NewInt(1<<53)) > 0 {
			return x, "", false
		}
		x.Imm = int(n.Int64())
	}
	return x, name, true
}

// take a line: why is it wrong?
func (w *twin) take(s string, at int) error {
	if m := named.FindStringSubmatch(s); m != nil {
		if _, ok := w.places[m[1]]; ok {
			return api.ErrExists
		}
		w.places[m[1]] = len(w.program)
		return nil
	}
	x, name, ok := w.words(s)
	switch {
	case !ok:
		return api.ErrForm
	case !code.Right(x):
		return api.ErrReject
	case len(w.program) == 128:
		return api.ErrLong
	}
	w.program, w.goals, w.lines = append(w.program, x), append(w.goals, name), append(w.lines, at)
	return nil
}

// parse: the answer.
func (w *twin) parse(s string) ([]code.Ins, int, error) {
	lines := strings.SplitAfter(s, "\n")
	for i, l := range lines[:len(lines)-1] {
		if err := w.take(strings.TrimSuffix(l, "\n"), i+1); err != nil {
			return nil, i + 1, err
		}
	}
	if lines[len(lines)-1] != "" {
		return nil, len(lines), api.ErrForm
	}
	for i, name := range w.goals {
		if _, ok := w.places[name]; name != "" && !ok {
			return nil, w.lines[i], api.ErrNone
		}
	}
	for i, name := range w.goals {
		if name == "" {
			continue
		}
		w.program[i].Imm = w.places[name]
		if w.places[name] > 127 {
			return nil, w.lines[i], api.ErrReject
		}
	}
	return w.program, 0, nil
}

// maker of lines by chance.
type maker struct{ *rand.Rand }

func (m maker) of(l ...string) string { return l[m.Intn(len(l))] }

func (m maker) name() string {
	return m.of("a", "b", "c1", "d22", "x", "loop", "r0", "r7", "end", "abcdefgh")
}

func (m maker) number(op int) string {
	if m.Intn(500) == 0 { // too much for some
		return m.of("65", "2147483648", "-2147483649")
	}
	if op == 17 || op == 19 {
		return m.of("1", "2", "3")
	}
	return m.of("0", "1", "2", "64", "511", "2147483647")
}

// line of an instruction that is right.
func (m maker) line() string {
	op := m.Intn(len(spoken))
	s := spoken[op]
	for range registersOf(op) {
		s += " r" + strconv.Itoa(m.Intn(8))
	}
	switch {
	case op >= 12 && op <= 16:
		s += " " + m.name()
	case op == 1 || op == 2 || op == 3 || op == 18 || op == 20:
	default:
		s += " " + m.number(op)
	}
	return s
}

// odd: a text in which a little is another than it was.
func (m maker) odd(s string) string {
	at := m.Intn(len(s))
	switch m.Intn(3) {
	case 0:
		return s[:at] + s[at+1:]
	case 1:
		return s[:at] + m.of(" ", "\n", "0", "-", "r", "8", ":", "a", "1", "A") + s[at:]
	}
	return s[:at] + m.of(" ", "\n", "0", "-1", "r7", "r8", ":", "z", "65", "9007199254740993") + s[at+1:]
}

// text of lines by chance; most are right.
func (m maker) text() string {
	var b strings.Builder
	n := m.Intn(12)
	if m.Intn(10) == 0 {
		n = 120 + m.Intn(12)
	}
	for i := range n {
		for m.Intn(4) == 0 && i < 8 {
			b.WriteString(m.name() + strconv.Itoa(m.Intn(9)) + ":\n")
		}
		b.WriteString(m.line() + "\n")
	}
	s := b.String()
	if m.Intn(3) > 0 { // names for the jumps
		for _, name := range []string{"a", "b", "c1", "d22", "x", "loop", "r0", "r7", "end", "abcdefgh"} {
			if cut := strings.LastIndexByte(s[:m.Intn(len(s)+1)], '\n') + 1; m.Intn(60) > 0 {
				s = s[:cut] + name + ":\n" + s[cut:]
			}
		}
	}
	if s != "" && m.Intn(4) == 0 {
		s = m.odd(s)
	}
	return s
}

// P21.2: by chance: the answer is the twin's, and all kinds of answers come.
func TestTwin(t *testing.T) {
	m := maker{rand.New(rand.NewSource(21))}
	count := map[error]int{}
	for range 40000 {
		s := m.text()
		w := &twin{places: map[string]int{}}
		want, wantAt, wantErr := w.parse(s)
		l, at, err := asm.Parse(s)
		count[err]++
		if !slices.Equal(l, want) || at != wantAt || err != wantErr {
			t.Fatalf("Parse(%q) = %v, %d, %v, want %v, %d, %v", s, l, at, err, want, wantAt, wantErr)
		}
	}
	for _, err := range []error{nil, api.ErrForm, api.ErrExists, api.ErrReject, api.ErrLong, api.ErrNone} {
		if count[err] < 100 {
			t.Error(err, count[err])
		}
	}
}

// P21.1: by chance: a program is that of its text, which names just the places that jumps go to, in lines of their own.
func TestThereAndBack(t *testing.T) {
	r := rand.New(rand.NewSource(22))
	good := 0
	for range 20000 {
		n := 1 + r.Intn(20)
		l := make([]code.Ins, n)
		want, wantErr := map[int]bool{}, error(nil)
		for i := range l {
			l[i] = code.Ins{Op: []int{0, 7, 12, 13, 16, 17, 18}[r.Intn(7)], Imm: 1 + r.Intn(n)}
			switch {
			case l[i].Op == code.End:
				l[i].Imm = 0
			case code.Jumps(l[i].Op):
				if r.Intn(50) == 0 {
					l[i].Imm, wantErr = n+1, api.ErrReject
				}
				want[l[i].Imm] = true
			}
		}
		if wantErr != nil {
			refuses(t, l, wantErr)
			continue
		}
		good++
		s, err := asm.Text(l)
		if err != nil {
			t.Fatal(l, err)
		}
		parses(t, s, l)
		at, got := 0, map[int]bool{}
		for _, x := range strings.Split(strings.TrimSuffix(s, "\n"), "\n") {
			if !strings.HasSuffix(x, ":") {
				at++
			} else if x != "a"+strconv.Itoa(at)+":" || got[at] || !want[at] {
				t.Fatalf("%v: %q at %d", l, x, at)
			} else {
				got[at] = true
			}
		}
		if len(got) != len(want) {
			t.Fatalf("%v: %q", l, s)
		}
	}
	if good < 10000 {
		t.Error(good)
	}
}

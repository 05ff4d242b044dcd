package bits_test

import (
	"math"
	"math/rand"
	"strings"
	"testing"

	"posthorse/api"
	"posthorse/bits"
	"posthorse/mark"
)

// wild: ints at which sums and differences may go wrong.
var wild = []int{math.MinInt, math.MinInt + 1, -1 << 32, -4000, -9, -1, 4000, 4001, 4032, 5000, 1 << 32, math.MaxInt - 1, math.MaxInt}

func fresh(t *testing.T, n int) *bits.Set {
	t.Helper()
	s, err := bits.New(n)
	if err != nil || s == nil {
		t.Fatal(n, s, err)
	}
	return s
}

func take(t *testing.T, s *bits.Set, i, n int) {
	t.Helper()
	if err := s.Take(i, n); err != nil {
		t.Fatal(i, n, err)
	}
}

// taken: what Has tells of the numbers below the bound, as digits.
func taken(s *bits.Set) string {
	n, _ := s.Size()
	b := make([]byte, n)
	for i := range b {
		b[i] = '0'
		if s.Has(i) {
			b[i] = '1'
		}
	}
	return string(b)
}

// body of a set's sector, by the document's words.
func body(digits string) string {
	b := make([]byte, 504)
	for i, d := range digits {
		if d == '1' {
			b[i/8] += 1 << (i % 8)
		}
	}
	return string(b)
}

func seal(t *testing.T, kind int, body string) string {
	t.Helper()
	s, err := mark.Seal(kind, body)
	if err != nil {
		t.Fatal(err)
	}
	return s
}

// P7.1: the bounds that there are.
func TestNew(t *testing.T) {
	for _, n := range []int{1, 2, 7, 8, 9, 3999, 4000} {
		s := fresh(t, n)
		if bound, free := s.Size(); bound != n || free != n {
			t.Error(n, bound, free)
		}
		if taken(s) != strings.Repeat("0", n) {
			t.Error(n, "not all are free")
		}
	}
	for _, n := range []int{math.MinInt, -4000, -1, 0, 4001, 4002, 1 << 32, math.MaxInt} {
		if s, err := bits.New(n); s != nil || err != api.ErrArg {
			t.Error(n, s, err)
		}
	}
}

// P7.1: taken and given, at each number of some bounds, and at all of them at once.
func TestTakeGive(t *testing.T) {
	for _, n := range []int{1, 7, 8, 9, 20} {
		s := fresh(t, n)
		for i := range n {
			take(t, s, i, 1)
			want := strings.Repeat("0", i) + "1" + strings.Repeat("0", n-i-1)
			if _, free := s.Size(); taken(s) != want || free != n-1 {
				t.Error(taken(s), want, free)
			}
			if err := s.Take(i, 1); err != api.ErrExists {
				t.Error(i, err)
			}
			if err := s.Give(i, 1); err != nil || s.Has(i) {
				t.Error(i, err)
			}
			if err := s.Give(i, 1); err != api.ErrNone {
				t.Error(i, err)
			}
		}
		take(t, s, 0, n)
		if _, free := s.Size(); free != 0 || taken(s) != strings.Repeat("1", n) {
			t.Error(taken(s))
		}
		if err := s.Give(0, n); err != nil || taken(s) != strings.Repeat("0", n) {
			t.Error(taken(s), err)
		}
	}
}

// P7.1: what is refused changes nothing, wherever in the run the cause is.
func TestRefused(t *testing.T) {
	s := fresh(t, 12)
	take(t, s, 3, 1)
	take(t, s, 6, 3)
	const was = "000100111000"
	for _, c := range []struct {
		i, n       int
		take, give error
	}{
		{0, 0, api.ErrArg, api.ErrArg},
		{3, 0, api.ErrArg, api.ErrArg},
		{3, -1, api.ErrArg, api.ErrArg},
		{-1, 1, api.ErrArg, api.ErrArg},
		{-1, 2, api.ErrArg, api.ErrArg},
		{-3, 7, api.ErrArg, api.ErrArg},
		{12, 1, api.ErrArg, api.ErrArg},
		{12, 0, api.ErrArg, api.ErrArg},
		{11, 2, api.ErrArg, api.ErrArg},
		{0, 13, api.ErrArg, api.ErrArg},
		{6, 7, api.ErrArg, api.ErrArg},
		{3, 1, api.ErrExists, nil},
		{3, 2, api.ErrExists, api.ErrNone},
		{2, 2, api.ErrExists, api.ErrNone},
		{0, 12, api.ErrExists, api.ErrNone},
		{5, 3, api.ErrExists, api.ErrNone},
		{8, 2, api.ErrExists, api.ErrNone},
		{9, 3, nil, api.ErrNone},
		{6, 3, api.ErrExists, nil},
	} {
		if taken(s) != was {
			t.Fatal(taken(s))
		}
		if err := s.Take(c.i, c.n); err != c.take {
			t.Error("take", c.i, c.n, err)
		} else if err == nil {
			s.Give(c.i, c.n)
		}
		if taken(s) != was {
			t.Fatal("take", c.i, c.n, taken(s))
		}
		if err := s.Give(c.i, c.n); err != c.give {
			t.Error("give", c.i, c.n, err)
		} else if err == nil {
			s.Take(c.i, c.n)
		}
	}
}

// P7.1, P7.2: any int may be handed in.
func TestWild(t *testing.T) {
	for _, n := range []int{10, 4000} {
		s := fresh(t, n)
		take(t, s, 0, n/2)
		was := taken(s)
		for _, i := range wild {
			if s.Has(i) {
				t.Error("has", i)
			}
			for _, k := range append([]int{0, 1, 2}, wild...) {
				if err := s.Take(i, k); err != api.ErrArg {
					t.Error("take", i, k, err)
				}
				if err := s.Give(i, k); err != api.ErrArg {
					t.Error("give", i, k, err)
				}
			}
			for _, from := range []int{0, 1, n / 2} {
				if err := s.Take(from, i); i != n && err != api.ErrArg {
					t.Error("take", from, i, err)
				}
			}
			at, ok := s.Run(1, i)
			if want := i < n; ok != want || (ok && at != n/2) || (!ok && at != 0) {
				t.Error("run from", i, at, ok)
			}
			if at, ok := s.Run(i, 0); ok || at != 0 {
				t.Error("run of", i, at, ok)
			}
		}
		if taken(s) != was {
			t.Error(n, "changed")
		}
	}
}

// P7.1, P7.2, P7.3: a set that is none.
func TestNil(t *testing.T) {
	var s *bits.Set
	if a, b := s.Size(); a != 0 || b != 0 {
		t.Error(a, b)
	}
	if s.Has(0) || s.Has(-1) {
		t.Error("has")
	}
	if err := s.Take(0, 1); err != api.ErrArg {
		t.Error(err)
	}
	if err := s.Give(0, 1); err != api.ErrArg {
		t.Error(err)
	}
	if at, ok := s.Run(1, 0); at != 0 || ok {
		t.Error(at, ok)
	}
	if at, n := s.Longest(); at != 0 || n != 0 {
		t.Error(at, n)
	}
	if c := s.Copy(); c != nil {
		t.Error(c)
	}
	if p, err := s.Put(); p != "" || err != api.ErrArg {
		t.Error(p, err)
	}
}

// P7.2: the first run that is long enough.
func TestRun(t *testing.T) {
	s := fresh(t, 14)
	take(t, s, 2, 1)
	take(t, s, 5, 1)
	take(t, s, 10, 1) // 00100100001000
	for _, c := range []struct {
		n, from, at int
		ok          bool
	}{
		{1, 0, 0, true}, {2, 0, 0, true}, {3, 0, 6, true}, {4, 0, 6, true}, {5, 0, 0, false},
		{1, 1, 1, true}, {2, 1, 3, true}, {1, 2, 3, true}, {1, 5, 6, true}, {3, 7, 7, true}, {4, 7, 0, false},
		{3, 8, 11, true}, {3, 11, 11, true}, {3, 12, 0, false}, {2, 12, 12, true}, {1, 13, 13, true}, {1, 14, 0, false},
		{0, 0, 0, false}, {-1, 0, 0, false}, {2, -5, 0, true}, {14, 0, 0, false},
	} {
		if at, ok := s.Run(c.n, c.from); at != c.at || ok != c.ok {
			t.Error(c, at, ok)
		}
	}
	all := fresh(t, 14)
	if at, ok := all.Run(14, 0); at != 0 || !ok {
		t.Error(at, ok)
	}
	if at, ok := all.Run(15, 0); at != 0 || ok {
		t.Error(at, ok)
	}
	if at, ok := all.Run(14, 1); at != 0 || ok {
		t.Error(at, ok)
	}
}

// P7.2: the longest run, the first one of several.
func TestLongest(t *testing.T) {
	for _, c := range []struct {
		digits string
		at, n  int
	}{
		{"0", 0, 1}, {"1", 0, 0}, {"1111", 0, 0}, {"000", 0, 3},
		{"0100", 2, 2}, {"0010", 0, 2}, {"00100", 0, 2}, {"10010001", 4, 3}, {"1001001", 1, 2}, {"0110110", 0, 1},
		{"111111110", 8, 1},
	} {
		s := set(t, c.digits)
		if at, n := s.Longest(); at != c.at || n != c.n {
			t.Error(c, at, n)
		}
	}
}

// set of digits.
func set(t *testing.T, digits string) *bits.Set {
	t.Helper()
	s := fresh(t, len(digits))
	for i, d := range digits {
		if d == '1' {
			take(t, s, i, 1)
		}
	}
	return s
}

// P7.2: a copy is the same, and apart.
func TestCopy(t *testing.T) {
	s := set(t, "0110000001")
	c := s.Copy()
	if taken(c) != "0110000001" {
		t.Error(taken(c))
	}
	take(t, c, 0, 1)
	if err := c.Give(9, 1); err != nil {
		t.Error(err)
	}
	take(t, s, 3, 2)
	if taken(s) != "0111100001" || taken(c) != "1110000000" {
		t.Error(taken(s), taken(c))
	}
}

// P7.3: the sector's bytes, and the set of them.
func TestPutGet(t *testing.T) {
	long := strings.Repeat("0", 3999) + "1"
	for _, digits := range []string{"0", "1", "01100000", "00000001", "000000001", "1111111111", long, strings.Repeat("1", 4000), strings.Repeat("0", 4000)} {
		s := set(t, digits)
		sector, err := s.Put()
		if err != nil || sector != seal(t, mark.Bits, body(digits)) {
			t.Errorf("%d: %x %v", len(digits), sector, err)
		}
		u, err := bits.Get(sector, len(digits))
		if err != nil || taken(u) != digits {
			t.Error(len(digits), err)
		}
		if taken(s) != digits {
			t.Error("changed")
		}
	}
	s := set(t, "01100000")
	if p, _ := s.Put(); p[4] != 6 {
		t.Error(p[4])
	}
	// What was given back leaves nothing behind.
	if err := s.Give(1, 2); err != nil {
		t.Error(err)
	}
	if p, err := s.Put(); err != nil || p != seal(t, mark.Bits, "") {
		t.Error(err)
	}
}

// P7.3: a set of a sector, with a bound of one's own.
func TestGetBound(t *testing.T) {
	sector := seal(t, mark.Bits, body("00100100"))
	for _, n := range []int{6, 7, 8, 9, 100, 4000} {
		s, err := bits.Get(sector, n)
		if err != nil || taken(s) != "001001"+strings.Repeat("0", n-6) {
			t.Error(n, err)
			continue
		}
		if bound, free := s.Size(); bound != n || free != n-2 {
			t.Error(bound, free)
		}
		take(t, s, 0, 1)
	}
	for _, n := range []int{1, 2, 3, 5} {
		if s, err := bits.Get(sector, n); s != nil || err != api.ErrForm {
			t.Error(n, s, err)
		}
	}
}

// P7.3: the errors, and which of several is answered.
func TestGetErrors(t *testing.T) {
	good := seal(t, mark.Bits, "\x01")
	broken := good[:5] + "\x01" + good[6:]
	for _, n := range []int{math.MinInt, -1, 0, 4001, math.MaxInt} {
		for _, s := range []string{"", good, broken} {
			if set, err := bits.Get(s, n); set != nil || err != api.ErrArg {
				t.Error(n, len(s), set, err)
			}
		}
	}
	for _, c := range []struct {
		s    string
		want error
	}{
		{"", api.ErrForm},
		{good[:511], api.ErrForm},
		{good + "\x00", api.ErrForm},
		{seal(t, mark.Inode, "\x01"), api.ErrForm},
		{strings.Repeat("\x00", 512), api.ErrForm},
		{broken, api.ErrSum},
	} {
		if s, err := bits.Get(c.s, 1); s != nil || err != c.want {
			t.Error(len(c.s), s, err)
		}
	}
	// One number that isn't below the bound, each of those that the body has room for.
	for i := range 4032 {
		b := make([]byte, 504)
		b[i/8] = 1 << (i % 8)
		sector := seal(t, mark.Bits, string(b))
		for _, n := range []int{i, i + 1, 4000} {
			if n < 1 || n > 4000 {
				continue
			}
			want := error(nil)
			if i >= n {
				want = api.ErrForm
			}
			if s, err := bits.Get(sector, n); err != want || (s == nil) != (want != nil) {
				t.Fatal(i, n, s, err)
			}
		}
	}
}

// run of a twin that is digits, by the document's words.
func run(digits string, n, from int) (int, bool) {
	if n < 1 {
		return 0, false
	}
	for i := max(0, from); i+n <= len(digits); i++ {
		if digits[i:i+n] == strings.Repeat("0", n) {
			return i, true
		}
	}
	return 0, false
}

// longest run of such a twin.
func longest(digits string) (int, int) {
	for n := len(digits); n > 0; n-- {
		if at, ok := run(digits, n, 0); ok {
			return at, n
		}
	}
	return 0, 0
}

// P7.1, P7.2, P7.3: a set goes as a twin that is digits.
func TestTwin(t *testing.T) {
	r := rand.New(rand.NewSource(7))
	for range 60 {
		n := 1 + r.Intn(40)
		s, twin := fresh(t, n), strings.Repeat("0", n)
		for range 120 {
			i, k := r.Intn(n+3)-1, r.Intn(6)
			inside := i >= 0 && k >= 1 && i+k <= n
			from, to, give := "0", "1", r.Intn(2) == 0
			want := error(api.ErrExists)
			if give {
				from, to, want = "1", "0", api.ErrNone
			}
			if !inside {
				want = api.ErrArg
			} else if twin[i:i+k] == strings.Repeat(from, k) {
				want = nil
				twin = twin[:i] + strings.Repeat(to, k) + twin[i+k:]
			}
			err := error(nil)
			if give {
				err = s.Give(i, k)
			} else {
				err = s.Take(i, k)
			}
			if err != want || taken(s) != twin {
				t.Fatal(give, i, k, err, want, taken(s), twin)
			}
			check(t, s, twin, k, i)
		}
	}
}

// check a set against its twin.
func check(t *testing.T, s *bits.Set, twin string, n, from int) {
	t.Helper()
	if bound, free := s.Size(); bound != len(twin) || free != strings.Count(twin, "0") {
		t.Fatal(twin, bound, free)
	}
	at, ok := s.Run(n, from)
	if wantAt, wantOK := run(twin, n, from); at != wantAt || ok != wantOK {
		t.Fatal(twin, n, from, at, ok)
	}
	at, most := s.Longest()
	if wantAt, want := longest(twin); at != wantAt || most != want {
		t.Fatal(twin, at, most)
	}
	if p, err := s.Put(); err != nil || p != seal(t, mark.Bits, body(twin)) {
		t.Fatal(twin, err)
	}
}

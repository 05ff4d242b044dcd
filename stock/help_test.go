package stock_test

import (
	"maps"
	"math/rand"
	"slices"
	"strings"
	"testing"

	"posthorse/check"
	"posthorse/code"
	"posthorse/page"
	"posthorse/run"
	"posthorse/stock"
)

// program with the fuel of its verdict.
type program struct {
	l    []code.Ins
	fuel int
}

func newProgram(t *testing.T) program {
	t.Helper()
	l := stock.Lookup()
	v, at, err := check.Program(l)
	if err != nil {
		t.Fatal(at, err)
	}
	return program{l, v.Fuel}
}

// run on a sector: its result, and whether the scratch stayed as it was.
func (p program) run(t *testing.T, s, key string) run.Result {
	t.Helper()
	var scratch run.Scratch
	for i := range scratch {
		scratch[i] = byte(i*7 + len(key))
	}
	was := scratch
	r, err := run.Program(p.l, s, key, &scratch, p.fuel)
	if err != nil || scratch != was {
		t.Fatalf("%q on %q: %+v, %v", key, s, r, err)
	}
	return r
}

// ends: does it end so on a sector, of which the steps are free?
func (p program) ends(t *testing.T, s, key string, want run.Result) {
	t.Helper()
	r := p.run(t, s, key)
	r.Steps = 0
	if r != want {
		t.Errorf("%q on %q: %+v, want %+v", key, s, r, want)
	}
}

// endsSomehow on any sector: which Code comes of it?
func (p program) endsSomehow(t *testing.T, s, key string) int {
	t.Helper()
	r := p.run(t, s, key)
	if r.Code < run.Next || r.Code > run.None || r.Next < 0 || r.Next > 65535 {
		t.Errorf("%q on %q: %+v", key, s, r)
	}
	return r.Code
}

// looksUp keys in a right page: does it end as layer 11 tells of them?
func (p program) looksUp(t *testing.T, m *maker, q page.Page) {
	t.Helper()
	keys := []string{m.key(), m.key(), "\x00", strings.Repeat("\xff", 16)}
	for _, key := range q.Keys {
		keys = append(keys, aroundKey(key)...)
	}
	s := sector(t, q)
	for _, key := range keys {
		want := run.Result{Code: run.None}
		if i, ok := page.Find(q, key); q.Level > 0 {
			want = run.Result{Code: run.Next, Next: q.Kids[page.Child(q, key)]}
		} else if ok {
			want = run.Result{Code: run.Found, Value: q.Values[i]}
		}
		p.ends(t, s, key, want)
	}
}

// sector of a right page.
func sector(t *testing.T, p page.Page) string {
	t.Helper()
	s, err := page.Put(p)
	if err != nil {
		t.Fatal(p, err)
	}
	return s
}

// aroundKey: a key, those that it begins with, and those just above and below it.
func aroundKey(key string) (l []string) {
	for n := 1; n <= len(key); n++ {
		l = append(l, key[:n])
		for _, step := range []int{-1, 1} {
			last := byte(int(key[n-1]) + step)
			l = append(l, key[:n-1]+string([]byte{last}))
		}
	}
	for _, more := range []string{"\x00", "a", "\xff"} {
		if len(key) < 16 {
			l = append(l, key+more)
		}
	}
	return l
}

// maker of keys, pages and sectors by chance; least is how long keys are at least.
type maker struct {
	*rand.Rand
	least int
}

func newMaker(seed int64) *maker { return &maker{rand.New(rand.NewSource(seed)), 1} }

// text of n bytes, of few kinds, so that keys begin alike.
func (m *maker) text(n int) string {
	var b strings.Builder
	for range n {
		b.WriteByte("\x00abc\xff\x80"[m.Intn(6)])
	}
	return b.String()
}

func (m *maker) key() string { return m.text(m.least + m.Intn(17-m.least)) }

// keys: n keys that rise.
func (m *maker) keys(n int) []string {
	l := map[string]bool{}
	for len(l) < n {
		l[m.key()] = true
	}
	return slices.Sorted(maps.Keys(l))
}

func (m *maker) leaf(n int) page.Page {
	p := page.Page{Keys: m.keys(n)}
	for range n {
		p.Values = append(p.Values, m.text(m.Intn(25)))
	}
	return p
}

func (m *maker) inner(n, level int) page.Page {
	p := page.Page{Level: level, Keys: append([]string{""}, m.keys(n-1)...)}
	for range n {
		p.Kids = append(p.Kids, 1+m.Intn(1023))
	}
	return p
}

// other sector: of bytes by chance, or that of a right page, of which some bytes are others; and a key, which that page had.
func (m *maker) other(t *testing.T) (string, string) {
	b, key := make([]byte, 512), m.key()
	m.Read(b)
	switch m.Intn(4) {
	case 0:
		b[6] = byte(m.Intn(3)) // of leaves there are few else
	case 1:
		p := m.leaf(1 + m.Intn(11))
		copy(b, sector(t, p))
		key = p.Keys[m.Intn(len(p.Keys))]
	case 2:
		copy(b, sector(t, m.inner(2+m.Intn(24), 1+m.Intn(5))))
	}
	for range m.Intn(6) {
		b[4+m.Intn(4)] = byte(m.Intn(256))
		b[8+m.Intn(504)] = []byte{0, 1, 16, 17, 24, 25, 255}[m.Intn(7)]
	}
	return string(b), key
}

package meta_test

import (
	"math/rand"
	"slices"
	"strings"
	"testing"

	"posthorse/api"
	"posthorse/mark"
	"posthorse/meta"
)

// body of a meta's sector, by the document's words.
func body(m meta.Meta) []byte {
	b := make([]byte, mark.Room)
	for i := range 6 {
		b[i] = byte(m.Batch >> (8 * i))
	}
	b[6], b[7] = byte(m.Tree.Root), byte(m.Tree.Root>>8)
	b[8] = byte(m.Tree.Height)
	b[9], b[10] = byte(m.Keys), byte(m.Keys>>8)
	for _, n := range m.Used {
		b[12+n/8] |= 1 << (n % 8)
	}
	return b
}

func seal(t *testing.T, kind int, body []byte) string {
	t.Helper()
	s, err := mark.Seal(kind, string(body))
	if err != nil {
		t.Fatal(err)
	}
	return s
}

// P14.1: the bytes of a sector, there and back.
func TestPutAndGet(t *testing.T) {
	for _, m := range rightMetas() {
		s, err := meta.Put(m)
		if err != nil || s != seal(t, mark.Meta, body(m)) {
			t.Errorf("Put(%+v): %x, %v", m, s, err)
		}
		got, err := meta.Get(s)
		if err != nil || !same(got, m) {
			t.Errorf("Get of %+v: %+v, %v", m, got, err)
		}
	}
}

// P14.1: some bytes as they are.
func TestBytes(t *testing.T) {
	m := of(0x060504030201, 0x0203, 4, 0x0b0a, 1, 8, 0x0203)
	s, err := meta.Put(m)
	want := "\x01\x02\x03\x04\x05\x06\x03\x02\x04\x0a\x0b\x00" + "\x02\x01" + strings.Repeat("\x00", 62) + "\x08" + strings.Repeat("\x00", 427)
	if err != nil || s[:4] != "PH\x07\x00" || s[4:508] != want {
		t.Errorf("%x, %v", s, err)
	}
}

// P14.1: each page's bit by itself.
func TestBits(t *testing.T) {
	for n := 1; n < 1024; n++ {
		m := of(1, n, 1, 1, n)
		s, err := meta.Put(m)
		if err != nil || s[16+n/8] != 1<<(n%8) || strings.Count(s[16:508], "\x00") != 491 {
			t.Fatal(n, err)
		}
		if got, err := meta.Get(s); err != nil || !same(got, m) {
			t.Fatal(n, got, err)
		}
	}
}

// P14.1: Put of what isn't right.
func TestPutWrong(t *testing.T) {
	for _, m := range wrongMetas() {
		if s, err := meta.Put(m); s != "" || err != api.ErrArg {
			t.Errorf("Put(%+v): %d bytes, %v", m, len(s), err)
		}
	}
}

// P14.1: the errors of a Get, and which of several is answered.
func TestGetErrors(t *testing.T) {
	right := of(5, 3, 2, 9, 1, 2, 3)
	good := seal(t, mark.Meta, body(right))
	with := func(at int, v byte) string {
		b := body(right)
		b[at] = v
		return seal(t, mark.Meta, b)
	}
	bare := func(m meta.Meta) string { return seal(t, mark.Meta, body(m)) }
	both := body(of(5, 3, 7, 9, 1, 2, 3))
	both[11] = 1
	spoilt := []byte(good)
	spoilt[20] ^= 1
	for _, c := range []struct {
		name, s string
		want    error
	}{
		{"nothing", "", api.ErrForm},
		{"short", good[:511], api.ErrForm},
		{"long", good + "\x00", api.ErrForm},
		{"noughts", strings.Repeat("\x00", 512), api.ErrForm},
		{"another kind", seal(t, mark.Page, body(right)), api.ErrForm},
		{"sum", string(spoilt), api.ErrSum},
		{"the byte 0", with(11, 1), api.ErrForm},
		{"behind the bits", with(140, 1), api.ErrForm},
		{"the last byte", with(503, 0x80), api.ErrForm},
		{"form, and not right", seal(t, mark.Meta, both), api.ErrForm},
		{"the page 0", with(12, 0x0f), api.ErrCorrupt},
		{"the page 0 alone", bare(of(5, 0, 0, 0, 0)), api.ErrCorrupt},
		{"a root that isn't used", with(12, 0x06), api.ErrCorrupt},
		{"no root", with(6, 0), api.ErrCorrupt},
		{"a root beyond all pages", with(7, 0xff), api.ErrCorrupt},
		{"too high", with(8, 7), api.ErrCorrupt},
		{"much too high", with(8, 255), api.ErrCorrupt},
		{"no height", with(8, 0), api.ErrCorrupt},
		{"no keys", with(9, 0), api.ErrCorrupt},
		{"no pages", with(12, 0), api.ErrCorrupt},
		{"keys of no tree", bare(of(5, 0, 0, 1)), api.ErrCorrupt},
		{"pages of no tree", bare(of(5, 0, 0, 0, 1)), api.ErrCorrupt},
		{"a root of no tree", bare(of(5, 1, 0, 0)), api.ErrCorrupt},
	} {
		if m, err := meta.Get(c.s); err != c.want || !same(m, meta.Meta{}) {
			t.Errorf("%s: %+v, %v", c.name, m, err)
		}
	}
	for at := 140; at < 504; at++ {
		if _, err := meta.Get(with(at, 1)); err != api.ErrForm {
			t.Error(at, err)
		}
	}
	if m, err := meta.Get(seal(t, mark.Meta, nil)); err != nil || !same(m, meta.Meta{}) {
		t.Error("an empty one:", m, err)
	}
}

// P14.1: whatever a body is: what Get tells is right, and its Put is that sector again.
func TestAnyBody(t *testing.T) {
	r := rand.New(rand.NewSource(6))
	right := 0
	for range 20000 {
		b := body(rightMetas()[r.Intn(8)])
		for range r.Intn(4) {
			b[r.Intn(24)] = byte(r.Intn(8))
		}
		s := seal(t, mark.Meta, b)
		m, err := meta.Get(s)
		if err != nil {
			if err != api.ErrForm && err != api.ErrCorrupt || !same(m, meta.Meta{}) {
				t.Fatal(m, err)
			}
			continue
		}
		right++
		again, err := meta.Put(m)
		if err != nil || again != s || !meta.Right(m) || !slices.IsSorted(m.Used) {
			t.Fatal(m, err)
		}
	}
	if right < 1000 {
		t.Error("too few to tell", right)
	}
}

package page_test

import (
	"math/rand"
	"slices"
	"strings"
	"testing"

	"posthorse/api"
	"posthorse/mark"
	"posthorse/page"
)

// body of a page's sector, by the document's words.
func body(p page.Page) []byte {
	b := make([]byte, mark.Room)
	b[0], b[1], b[2] = 1, byte(len(p.Keys)), byte(p.Level)
	if p.Level > 0 {
		b[0] = 2
	}
	for i, k := range p.Keys {
		if p.Level == 0 {
			e := b[4+42*i:]
			e[0], e[1] = byte(len(k)), byte(len(p.Values[i]))
			copy(e[2:], k)
			copy(e[18:], p.Values[i])
			continue
		}
		e := b[4+20*i:]
		e[0], e[1], e[2] = byte(len(k)), byte(p.Kids[i]), byte(p.Kids[i]>>8)
		copy(e[4:], k)
	}
	return b
}

func seal(t *testing.T, body string) string {
	t.Helper()
	s, err := mark.Seal(mark.Page, body)
	if err != nil {
		t.Fatal(err)
	}
	return s
}

// P11.1: Put and Get of what is right.
func TestPutAndGet(t *testing.T) {
	for _, p := range rightPages() {
		q, untouched := roomy(p)
		s, err := page.Put(q)
		if err != nil || s != seal(t, string(body(p))) {
			t.Errorf("Put(%+v): %x, %v", p, s, err)
		}
		if !untouched() {
			t.Errorf("Put changed %+v", p)
		}
		q, err = page.Get(s)
		if err != nil || !same(p, q) {
			t.Errorf("Get of %+v: %+v, %v", p, q, err)
		}
	}
}

// P11.1: Put of what isn't right.
func TestPutWrong(t *testing.T) {
	for _, p := range wrongPages() {
		if s, err := page.Put(p); err != api.ErrArg || s != "" {
			t.Errorf("Put(%+v): %+v, %v", p, s, err)
		}
	}
}

// P11.1: layer 3's error comes first.
func TestGetUnsealed(t *testing.T) {
	wrong := string(body(leaf("b", "1", "a", "2")))
	sum := []byte(seal(t, wrong))
	sum[7] ^= 1
	inode, err := mark.Seal(mark.Inode, string(body(leaf("a", "1"))))
	if err != nil {
		t.Fatal(err)
	}
	for _, c := range []struct {
		s    string
		want error
	}{
		{"", api.ErrForm},
		{wrong, api.ErrForm},
		{seal(t, wrong) + "\x00", api.ErrForm},
		{strings.Repeat("\x00", api.Sector), api.ErrForm},
		{inode, api.ErrForm},
		{string(sum), api.ErrSum},
	} {
		if p, err := page.Get(c.s); err != c.want || !same(p, page.Page{}) {
			t.Errorf("Get(%x): %+v, %v", c.s, p, err)
		}
	}
}

// changed: a page's body with some bytes of it (place, byte, and so on) another way.
func changed(p page.Page, l ...int) string {
	b := body(p)
	for i := 0; i < len(l); i += 2 {
		b[l[i]] = byte(l[i+1])
	}
	return string(b)
}

// P11.1: bodies that aren't of the form.
func TestGetForm(t *testing.T) {
	ab := leaf("a", "1", "b", "2")
	in := inner(1, "a")
	for _, b := range []string{
		changed(ab, 0, 0), changed(ab, 0, 3), changed(ab, 0, 255), changed(in, 0, 0), changed(in, 0, 3),
		changed(ab, 0, 2), changed(in, 0, 1),
		changed(ab, 2, 1), changed(ab, 2, 6), changed(in, 2, 0),
		changed(page.Page{}, 0, 2), changed(page.Page{}, 2, 1), changed(page.Page{}, 0, 0), strings.Repeat("\x00", mark.Room),
		changed(ab, 3, 1), changed(in, 3, 255),
		changed(manyLeaf(11), 1, 12), changed(manyLeaf(11), 1, 255), changed(manyInner(25), 1, 26), changed(manyInner(25), 1, 255),
		changed(ab, 1, 1), changed(in, 1, 1),
		changed(ab, 4, 17), changed(ab, 4, 255), changed(ab, 5, 25), changed(ab, 5, 255),
		changed(ab, 7, 'x'), changed(ab, 21, 'x'), changed(ab, 23, 'x'), changed(ab, 45, 'x'),
		changed(ab, 4, 0), changed(ab, 5, 0), changed(ab, 46, 0),
		changed(ab, 88, 1), changed(ab, 503, 1), changed(manyLeaf(11), 466, 1), changed(manyLeaf(11), 503, 1),
		changed(in, 7, 1), changed(in, 27, 1),
		changed(in, 24, 17), changed(in, 24, 255), changed(in, 24, 0), changed(in, 4, 17),
		changed(in, 8, 'x'), changed(in, 23, 'x'), changed(in, 29, 'x'), changed(in, 43, 'x'),
		changed(in, 44, 1), changed(in, 503, 1),
		changed(inner(9, "b", "a"), 503, 1), changed(leaf("b", "1", "a", "2"), 503, 1),
	} {
		if p, err := page.Get(seal(t, b)); err != api.ErrForm || !same(p, page.Page{}) {
			t.Errorf("Get(%x): %+v, %v", b, p, err)
		}
	}
}

// P11.1: bodies of the form, of pages that aren't right.
func TestGetCorrupt(t *testing.T) {
	for _, p := range []page.Page{
		leaf("", "1"),
		leaf("a", "1", "", "2"),
		leaf("a", "1", "a", "2"),
		leaf("b", "1", "a", "2"),
		inner(6, "a"),
		inner(255, "a"),
		{Level: 1},
		inner(1),
		inner(5),
		{Level: 1, Keys: []string{"a", "b"}, Kids: []int{1, 2}},
		inner(1, ""),
		inner(1, "a", "a"),
		inner(1, "b", "a"),
		{Level: 1, Keys: []string{"", "a"}, Kids: []int{0, 2}},
		{Level: 1, Keys: []string{"", "a"}, Kids: []int{1, 1024}},
		{Level: 1, Keys: []string{"", "a"}, Kids: []int{65535, 2}},
	} {
		if q, err := page.Get(seal(t, string(body(p)))); err != api.ErrCorrupt || !same(q, page.Page{}) {
			t.Errorf("Get of %+v: %+v, %v", p, q, err)
		}
	}
}

// P11.1: whatever the body, what Get tells is right, and Put makes the same sector of it.
func TestGetByChance(t *testing.T) {
	r := rand.New(rand.NewSource(2))
	var got, corrupt, form int
	for range 20000 {
		b := body(rightPages()[r.Intn(len(rightPages()))])
		for range r.Intn(3) {
			b[r.Intn(60)] = byte(r.Intn(4) * r.Intn(70))
		}
		s := seal(t, string(b))
		p, err := page.Get(s)
		switch err {
		case nil:
			got++
			if back, err := page.Put(p); err != nil || back != s {
				t.Fatalf("%x: %+v, %v", b, p, err)
			}
		case api.ErrCorrupt:
			corrupt++
		case api.ErrForm:
			form++
		default:
			t.Fatal(err)
		}
		if err != nil && !same(p, page.Page{}) {
			t.Fatalf("%x: %+v beside %v", b, p, err)
		}
	}
	if got < 1000 || corrupt < 100 || form < 1000 {
		t.Error(got, corrupt, form)
	}
}

// P11.1: an answer's lists are its own.
func TestGetAnew(t *testing.T) {
	for _, p := range []page.Page{manyLeaf(5), manyInner(5)} {
		s := seal(t, string(body(p)))
		a, err := page.Get(s)
		if err != nil {
			t.Fatal(err)
		}
		values := slices.Clone(a.Values)
		for i := range a.Keys[:cap(a.Keys)] {
			a.Keys[:cap(a.Keys)][i] = "spoilt"
		}
		if !slices.Equal(a.Values, values) {
			t.Error("shared")
		}
		spoil(a)
		if b, err := page.Get(s); err != nil || !same(b, p) {
			t.Errorf("%+v, %v", b, err)
		}
	}
}

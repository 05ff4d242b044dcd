package stock_test

import (
	"slices"
	"strings"
	"testing"

	"posthorse/asm"
	"posthorse/check"
	"posthorse/code"
	"posthorse/page"
	"posthorse/run"
	"posthorse/stock"
)

// P22.1: a program that may be run, with no more fuel and no more instructions than it is to have; none of them writes into the scratch.
func TestMayBeRun(t *testing.T) {
	l := stock.Lookup()
	v, at, err := check.Program(l)
	if at != 0 || err != nil || v.Fuel < 1 || v.Fuel > 1000 {
		t.Error(v.Fuel, at, err)
	}
	if len(l) < 1 || len(l) > 64 {
		t.Error(len(l))
	}
	for at, x := range l {
		if x.Op == code.StoreS {
			t.Errorf("%d: %v", at, x)
		}
	}
}

// P22.1: the document's example, for keys of each length.
func TestExample(t *testing.T) {
	p := newProgram(t)
	for _, key := range aroundKey("abcdefghijklmnop") {
		p.ends(t, sector(t, page.Page{}), key, run.Result{Code: run.None})
	}
}

// P22.1: a leaf and an inner page that were made by hand.
func TestByHand(t *testing.T) {
	p := newProgram(t)
	leaf := sector(t, page.Page{Keys: []string{"a", "ab", "b"}, Values: []string{"1", "", "three"}})
	for key, want := range map[string]run.Result{
		"a":     {Code: run.Found, Value: "1"},
		"ab":    {Code: run.Found},
		"b":     {Code: run.Found, Value: "three"},
		"A":     {Code: run.None},
		"a\x00": {Code: run.None},
		"aa":    {Code: run.None},
		"abc":   {Code: run.None},
		"c":     {Code: run.None},
		"\x00":  {Code: run.None},
	} {
		p.ends(t, leaf, key, want)
	}
	inner := sector(t, page.Page{Level: 5, Keys: []string{"", "b", "bb", "c"}, Kids: []int{1023, 1, 256, 255}})
	for key, kid := range map[string]int{"\x00": 1023, "a": 1023, "azzz": 1023, "b": 1, "b\x00": 1, "ba": 1, "bb": 256, "bbb": 256, "c": 255, "\xff": 255} {
		p.ends(t, inner, key, run.Result{Code: run.Next, Next: kid})
	}
}

// P22.1: leaves and inner pages of each size that there may be, for each of their keys, and for keys about these.
func TestSizes(t *testing.T) {
	p, m := newProgram(t), newMaker(22)
	for n := range page.MostLeaf + 1 {
		for range 40 {
			p.looksUp(t, m, m.leaf(n))
		}
	}
	for n := 2; n <= page.MostInner; n++ {
		for level := 1; level <= 5; level++ {
			for range 5 {
				p.looksUp(t, m, m.inner(n, level))
			}
		}
	}
}

// P22.1: pages that are full to their last byte: keys and values as long as they may be.
func TestFull(t *testing.T) {
	p, m := newProgram(t), newMaker(23)
	m.least = 16
	for range 40 {
		leaf := m.leaf(page.MostLeaf)
		for i := range leaf.Values {
			leaf.Values[i] = m.text(24)
		}
		p.looksUp(t, m, leaf)
		p.looksUp(t, m, m.inner(page.MostInner, 1))
	}
}

// P22.1: any other sector: it ends without an error, with one of the Codes, and with a next page that there may be.
func TestOther(t *testing.T) {
	p, m := newProgram(t), newMaker(24)
	for c := range 256 {
		p.endsSomehow(t, strings.Repeat(string([]byte{byte(c)}), 512), m.key())
	}
	codes := map[int]int{}
	for range 20000 {
		s, key := m.other(t)
		codes[p.endsSomehow(t, s, key)]++
	}
	for _, c := range []int{run.Next, run.Found, run.None} {
		if codes[c] < 100 {
			t.Error(codes)
		}
	}
}

// P22.2: the text is that of the program, and the program is that of the text.
func TestText(t *testing.T) {
	s := stock.Text()
	want, err := asm.Text(stock.Lookup())
	if s == "" || s != want || err != nil {
		t.Errorf("%q, want %q, %v", s, want, err)
	}
	l, at, err := asm.Parse(s)
	if !slices.Equal(l, stock.Lookup()) || at != 0 || err != nil {
		t.Error(l, at, err)
	}
}

// Rules: each program that is answered is new memory.
func TestMemory(t *testing.T) {
	a, b := stock.Lookup(), stock.Lookup()
	for i := range a {
		a[i] = code.Ins{Op: -1}
	}
	if slices.Contains(b, a[0]) || slices.Contains(stock.Lookup(), a[0]) {
		t.Error("two programs share memory")
	}
}

package le_test

import (
	"math"
	"strings"
	"testing"

	"posthorse/api"
	"posthorse/le"
)

// P1.1: Put.
func TestPut(t *testing.T) {
	for _, c := range []struct {
		n, size int
		want    string
	}{
		{258, 3, "\x02\x01\x00"},
		{0, 1, "\x00"},
		{0, 7, "\x00\x00\x00\x00\x00\x00\x00"},
		{255, 1, "\xff"},
		{256, 1, ""},
		{256, 2, "\x00\x01"},
		{65535, 2, "\xff\xff"},
		{65536, 2, ""},
		{0x01020304050607, 7, "\x07\x06\x05\x04\x03\x02\x01"},
		{1<<56 - 1, 7, "\xff\xff\xff\xff\xff\xff\xff"},
		{1 << 56, 7, ""},
		{math.MaxInt, 7, ""},
		{-1, 1, ""},
		{-1, 7, ""},
		{math.MinInt, 7, ""},
		{0, 0, ""},
		{1, 8, ""},
		{1, -1, ""},
		{1, math.MinInt, ""},
		{1, math.MaxInt, ""},
	} {
		if s := le.Put(c.n, c.size); s != c.want {
			t.Errorf("Put(%d, %d) = %x, want %x", c.n, c.size, s, c.want)
		}
	}
}

// P1.1: Get.
func TestGet(t *testing.T) {
	for _, c := range []struct {
		s    string
		want int
	}{
		{"", 0},
		{"\x05", 5},
		{"\x02\x01\x00", 258},
		{"\xff\xff\xff\xff\xff\xff\xff", 1<<56 - 1},
		{"\x00\x00\x00\x00\x00\x00\x01", 1 << 48},
		{"\x01\x00\x00\x00\x00\x00\x00\x00", 0},
		{strings.Repeat("\xff", 100), 0},
	} {
		if n := le.Get(c.s); n != c.want {
			t.Errorf("Get(%x) = %d, want %d", c.s, n, c.want)
		}
	}
}

// P1.1: Get takes back what Put gave, at both ends of every size, and the next number above has no bytes.
func TestPutGet(t *testing.T) {
	for size := 1; size <= 7; size++ {
		last := 1<<(8*size) - 1
		for _, n := range []int{0, 1, last / 3, last - 1, last} {
			s := le.Put(n, size)
			if len(s) != size || le.Get(s) != n {
				t.Errorf("size %d: %d became %x, and %d", size, n, s, le.Get(s))
			}
		}
		if le.Put(last+1, size) != "" {
			t.Errorf("size %d takes %d", size, last+1)
		}
	}
}

// P1.2: what goes in stands one behind the other.
func TestOut(t *testing.T) {
	var o le.Out
	if s, err := o.String(); s != "" || err != nil {
		t.Errorf("zero value: %q %v", s, err)
	}
	o.Num(5, 2)
	o.Text("ab", 4)
	o.Text("", 0)
	o.Text("xyz", 3)
	o.Num(1<<56-1, 7)
	o.Text("", 1)
	want := "\x05\x00ab\x00\x00xyz\xff\xff\xff\xff\xff\xff\xff\x00"
	for range 2 { // asking changes nothing
		if s, err := o.String(); s != want || err != nil {
			t.Errorf("%q %v", s, err)
		}
	}
	o.Num(0, 1)
	if s, err := o.String(); s != want+"\x00" || err != nil {
		t.Errorf("on behind String: %q %v", s, err)
	}
}

// P1.2: what doesn't go into its size is an error for good.
func TestOutLong(t *testing.T) {
	for name, spoil := range map[string]func(o *le.Out){
		"number above":     func(o *le.Out) { o.Num(256, 1) },
		"number below":     func(o *le.Out) { o.Num(-1, 3) },
		"number of 0":      func(o *le.Out) { o.Num(0, 0) },
		"number of 8":      func(o *le.Out) { o.Num(0, 8) },
		"number of -1":     func(o *le.Out) { o.Num(0, -1) },
		"number, greatest": func(o *le.Out) { o.Num(math.MaxInt, math.MaxInt) },
		"number, least":    func(o *le.Out) { o.Num(math.MinInt, math.MinInt) },
		"text":             func(o *le.Out) { o.Text("abc", 2) },
		"text of 0":        func(o *le.Out) { o.Text("a", 0) },
		"text of -1":       func(o *le.Out) { o.Text("", -1) },
		"text, least":      func(o *le.Out) { o.Text("", math.MinInt) },
		"text, greatest":   func(o *le.Out) { o.Text("a", math.MaxInt) },
	} {
		var o le.Out
		o.Num(7, 1)
		spoil(&o)
		for range 2 {
			if s, err := o.String(); s != "" || err != api.ErrLong {
				t.Errorf("%s: %q %v", name, s, err)
			}
			o.Num(7, 1)
			o.Text("a", 1)
		}
	}
}

// P1.2: a nil *Out.
func TestOutNil(t *testing.T) {
	var o *le.Out
	o.Num(1, 1)
	o.Num(1, 9)
	o.Text("a", 1)
	o.Text("a", -1)
	if s, err := o.String(); s != "" || err != api.ErrArg {
		t.Errorf("%q %v", s, err)
	}
}

// P1.3: what is read comes one behind the other.
func TestIn(t *testing.T) {
	in := le.Read("\x05\x00ab\x00\x00\x00c\xff\xff\xff\xff\xff\xff\xff")
	if n := in.Num(2); n != 5 {
		t.Error(n)
	}
	if s := in.Text(3); s != "ab\x00" {
		t.Errorf("%q", s)
	}
	in.Noughts(2)
	if s := in.Text(0); s != "" {
		t.Errorf("%q", s)
	}
	in.Noughts(0)
	if s := in.Text(1); s != "c" {
		t.Errorf("%q", s)
	}
	if n := in.Num(7); n != 1<<56-1 {
		t.Error(n)
	}
	for range 2 {
		if err := in.End(); err != nil {
			t.Error(err)
		}
	}
}

// P1.3: nothing to read is read to its end.
func TestInEmpty(t *testing.T) {
	in := le.Read("")
	if in == nil {
		t.Fatal("nil")
	}
	in.Noughts(0)
	if s := in.Text(0); s != "" {
		t.Errorf("%q", s)
	}
	if err := in.End(); err != nil {
		t.Error(err)
	}
}

// P1.3: the first error stays, and nothing is read behind it.
func TestInFirstError(t *testing.T) {
	for _, c := range []struct {
		name string
		read func(in *le.In)
		want error
	}{
		{"number of 0", func(in *le.In) { in.Num(0) }, api.ErrArg},
		{"number of 8", func(in *le.In) { in.Num(8) }, api.ErrArg},
		{"number of -1", func(in *le.In) { in.Num(-1) }, api.ErrArg},
		{"number, greatest", func(in *le.In) { in.Num(math.MaxInt) }, api.ErrArg},
		{"text of -1", func(in *le.In) { in.Text(-1) }, api.ErrArg},
		{"text, least", func(in *le.In) { in.Text(math.MinInt) }, api.ErrArg},
		{"noughts of -1", func(in *le.In) { in.Noughts(-1) }, api.ErrArg},
		{"number too far", func(in *le.In) { in.Num(6) }, api.ErrForm},
		{"text too far", func(in *le.In) { in.Text(6) }, api.ErrForm},
		{"text, greatest", func(in *le.In) { in.Text(math.MaxInt) }, api.ErrForm},
		{"noughts too far", func(in *le.In) { in.Noughts(6) }, api.ErrForm},
		{"noughts, another first", func(in *le.In) { in.Text(2); in.Noughts(1) }, api.ErrForm},
		{"noughts, another last", func(in *le.In) { in.Noughts(3) }, api.ErrForm},
		{"noughts, another between", func(in *le.In) { in.Noughts(4) }, api.ErrForm},
		{"argument ahead of form", func(in *le.In) { in.Num(-1); in.Text(9) }, api.ErrArg},
		{"form ahead of argument", func(in *le.In) { in.Text(9); in.Num(-1) }, api.ErrForm},
		{"noughts ahead of argument", func(in *le.In) { in.Noughts(5); in.Text(-1) }, api.ErrForm},
	} {
		in := le.Read("\x00\x00\x01\x00\x02")
		c.read(in)
		for range 2 {
			if err := in.End(); err != c.want {
				t.Errorf("%s: %v, want %v", c.name, err, c.want)
			}
			if n, s := in.Num(1), in.Text(1); n != 0 || s != "" {
				t.Errorf("%s: read on: %d %q", c.name, n, s)
			}
			in.Noughts(1)
		}
	}
}

// P1.3: what goes wrong answers nothing itself.
func TestInAnswersOfErrors(t *testing.T) {
	if n := le.Read("\x01\x02").Num(3); n != 0 {
		t.Error(n)
	}
	if n := le.Read("\x01\x02").Num(-1); n != 0 {
		t.Error(n)
	}
	if n := le.Read(strings.Repeat("\x01", 8)).Num(8); n != 0 {
		t.Error(n)
	}
	if s := le.Read("ab").Text(3); s != "" {
		t.Errorf("%q", s)
	}
	if s := le.Read("ab").Text(-1); s != "" {
		t.Errorf("%q", s)
	}
}

// P1.3: bytes that are left at the End may be read still.
func TestInLong(t *testing.T) {
	in := le.Read("abc")
	if in.Text(1); in.End() != api.ErrLong {
		t.Error(in.End())
	}
	if s := in.Text(1); s != "b" {
		t.Errorf("%q", s)
	}
	if err := in.End(); err != api.ErrLong {
		t.Error(err)
	}
	if n := in.Num(1); n != 'c' {
		t.Error(n)
	}
	if err := in.End(); err != nil {
		t.Error(err)
	}
	in.Text(1)
	if err := in.End(); err != api.ErrForm {
		t.Error(err)
	}
}

// P1.3: a nil *In.
func TestInNil(t *testing.T) {
	var in *le.In
	if n, s := in.Num(1), in.Text(1); n != 0 || s != "" {
		t.Errorf("%d %q", n, s)
	}
	if n, s := in.Num(-1), in.Text(-1); n != 0 || s != "" {
		t.Errorf("%d %q", n, s)
	}
	in.Noughts(0)
	in.Noughts(-1)
	if err := in.End(); err != api.ErrArg {
		t.Error(err)
	}
}

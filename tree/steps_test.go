package tree_test

import (
	"strings"
	"testing"

	"posthorse/api"
	"posthorse/fault"
	"posthorse/nvme"
	"posthorse/tree"
)

// steps of a call: by which operations the error comes, where the power fails at the first completion, at the second one, and so on. (One behind the other they tell what the call does, and in which order.)
func steps(t *testing.T, begin func() (*nvme.Device, func() error)) string {
	t.Helper()
	var l []string
	for n := 1; ; n++ {
		d, call := begin()
		d.Fail(n)
		err := call()
		if err == nil {
			return strings.Join(l, ", ")
		}
		if fault.Number(err) != api.ErrPower {
			t.Error(n, err)
		}
		l = append(l, strings.Join(fault.Ops(err), " "))
	}
}

// The steps of other layers' calls.
const (
	committing1 = "commit write, commit write, commit flush, commit force"
	committing2 = "commit write, " + committing1
)

func isSteps(t *testing.T, name, got, want string) {
	t.Helper()
	if got != want {
		t.Errorf("%s: %s, want %s", name, got, want)
	}
}

// P16.1: what Make and Open do, in order.
func TestMakeSteps(t *testing.T) {
	got := steps(t, func() (*nvme.Device, func() error) {
		f := fresh(t, usual)
		return f.Drive().Device(), func() error { return tree.Make(f, 0) }
	})
	isSteps(t, "make", got, committing2+", "+committing1)
	got = steps(t, func() (*nvme.Device, func() error) {
		f := fresh(t, usual)
		ok(t, tree.Make(f, 0))
		ok(t, f.Checkpoint())
		return f.Drive().Device(), func() error { _, err := tree.Open(f, 0); return err }
	})
	isSteps(t, "open", got, "read")
}

// P16.3, P16.4: what Batch and Move do, in order.
func TestBatchSteps(t *testing.T) {
	for _, c := range []struct {
		name, want string
		has        int // keys that there are
		call       func(x *tree.Tree) error
	}{
		{"first put", committing2 + ", write, flush, " + committing1, 0, func(x *tree.Tree) error { return x.Batch(put("a", "1")) }},
		{"second put", "page read, " + committing2 + ", write, flush, " + committing1, 1, func(x *tree.Tree) error { return x.Batch(put("a", "1")) }},
		{"put in two leaves", "page read, page read, page read, " + committing2 + ", write, write, write, flush, " + committing1, 30, func(x *tree.Tree) error { return x.Batch(put(key(0), "1"), put(key(29), "1"), put(key(1), "2")) }},
		{"delete", "page read, page read, write, write, flush, " + committing1, 30, func(x *tree.Tree) error { return x.Batch(del(key(29))) }},
		{"delete of all", "page read, flush, " + committing1, 1, func(x *tree.Tree) error { return x.Batch(del(key(0))) }},
		{"delete of nothing", "page read, page read", 30, func(x *tree.Tree) error { return x.Batch(del("a")) }},
		{"nothing", "", 30, func(x *tree.Tree) error { return x.Batch() }},
		{"get", "page read, page read", 30, func(x *tree.Tree) error { _, _, err := x.Get(key(3)); return err }},
		{"move", "read, read, write, write, flush, " + committing2, 1, func(x *tree.Tree) error { return x.Move(0) }},
	} {
		got := steps(t, func() (*nvme.Device, func() error) {
			x := made(t, usual)
			fill(t, x, c.has)
			ok(t, filesOf(x).Checkpoint())
			return deviceOf(x), func() error { return c.call(x) }
		})
		isSteps(t, c.name, got, c.want)
	}
}

// P16.3: where the power fails in a batch the tree is as it was, and nothing is held.
func TestBatchFails(t *testing.T) {
	for n := 1; ; n++ {
		x := made(t, usual)
		fill(t, x, 30)
		x.Enter()
		m := x.Meta()
		deviceOf(x).Fail(n)
		err := x.Batch(put(key(3), "x"), put(key(30), "y"))
		if err == nil {
			if n < 8 {
				t.Error(n)
			}
			return
		}
		if !sameMeta(x.Meta(), m) {
			t.Error(n, x.Meta())
		}
		isHeld(t, x, 0, 0)
	}
}

// P16.3: an error that isn't the power's: behind it the tree goes on as it was.
func TestBatchNoQueue(t *testing.T) {
	x := made(t, usual)
	want := fill(t, x, 9)
	ok(t, filesOf(x).Checkpoint())
	d := deviceOf(x)
	fillQueue := func() {
		for {
			if err := d.Submit(nvme.Command{Kind: nvme.Read, Sector: 3, Tag: 7}); err != nil {
				return
			}
		}
	}
	fillQueue()
	m := x.Meta()
	for _, call := range []func() error{func() error { return x.Batch(put("a", "1")) }, func() error { return x.Move(0) }, func() error { _, _, err := x.Get("a"); return err }} {
		if err := call(); fault.Number(err) != api.ErrQueue {
			t.Error(err)
		}
	}
	if !sameMeta(x.Meta(), m) {
		t.Error(x.Meta())
	}
	for len(d.Pending()) > 0 {
		if _, err := d.Complete(0); err != nil {
			t.Fatal(err)
		}
	}
	ok(t, x.Batch(put("a", "1")))
	want["a"] = "1"
	agrees(t, x, want)
	agrees(t, again(t, x), want)
}

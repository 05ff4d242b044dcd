package tree_test

import (
	"maps"
	"math/rand"
	"testing"

	"posthorse/api"
	"posthorse/drive"
	"posthorse/fault"
	"posthorse/files"
	"posthorse/nvme"
	"posthorse/super"
	"posthorse/tree"
)

// remounted: the tree of a device behind a failure of the power, which may fail again while it is opened.
func remounted(t *testing.T, r *rand.Rand, d *nvme.Device) *tree.Tree {
	t.Helper()
	for {
		d.Boot()
		if r.Intn(2) == 0 {
			d.Fail(1+r.Intn(40), r.Intn(2), r.Intn(2), r.Intn(2))
		}
		var x *tree.Tree
		f, err := files.Open(drive.New(d))
		if err == nil {
			x, err = tree.Open(f, 0)
		}
		if err == nil {
			d.Boot()
			return x
		}
		if !d.Down() || fault.Number(err) != api.ErrPower {
			t.Fatal(err)
		}
	}
}

// story of calls, and what the map is behind each of them.
type story []struct {
	name string
	call func(x *tree.Tree) error
	want map[string]string
}

// theStory: batches that make the file grow, that don't, and one by which all is gone; moves; somebody inside.
func theStory() story {
	var s story
	want := map[string]string{}
	add := func(name string, call func(x *tree.Tree) error, l ...tree.Op) {
		apply(want, l)
		s = append(s, struct {
			name string
			call func(x *tree.Tree) error
			want map[string]string
		}{name, call, maps.Clone(want)})
	}
	batch := func(name string, l ...tree.Op) {
		add(name, func(x *tree.Tree) error { return x.Batch(l...) }, l...)
	}
	move := func(x *tree.Tree) error { return x.Move(0) }
	batch("first", put("a", "1"))
	batch("grown", puts(0, 16)...)
	batch("changed", put("a", "2"), del(key(3)), put(key(5), "x"))
	add("enter", func(x *tree.Tree) error { x.Enter(); return nil })
	batch("held", del(key(4)), put(key(5), "y"))
	add("move", move)
	batch("held again", put(key(5), "z"), put("b", "1"))
	add("move again", move)
	add("leave", func(x *tree.Tree) error { x.Leave(1); return nil })
	batch("free again", put(key(5), "w"), put("b", "2"))
	var gone []tree.Op
	for k := range want {
		gone = append(gone, del(k))
	}
	batch("all gone", gone[:len(gone)/2]...)
	batch("all gone", gone[len(gone)/2:]...)
	batch("begun anew", put("c", "1"))
	return s
}

// run the story till a call fails: which one.
func (s story) run(x *tree.Tree) (int, error) {
	for i, c := range s {
		if err := c.call(x); err != nil {
			return i, err
		}
	}
	return len(s), nil
}

// P16.5: wherever the power fails in a story, whatever is kept.
func TestPowerEverywhere(t *testing.T) {
	s := theStory()
	begun := made(t, super.Layout{Sectors: 64, Journal: 12})
	r := rand.New(rand.NewSource(7))
	both := [2]int{}
	for _, keep := range [][]int{nil, {1}, {0, 1}, {1, 1, 0}} {
		for n := 1; ; n++ {
			d := deviceOf(begun).Copy()
			x := mounted(t, d)
			filesOf(x).Drive().Choose(n, 2, 1)
			d.Fail(n, keep...)
			i, err := s.run(x)
			if err == nil {
				d.Boot() // no Fail waits any more
				agrees(t, x, s[len(s)-1].want)
				break
			}
			if fault.Number(err) != api.ErrPower {
				t.Fatal(n, keep, s[i].name, err)
			}
			before := map[string]string{}
			if i > 0 {
				before = s[i-1].want
			}
			x = remounted(t, r, d)
			switch {
			case differs(x, before) == "":
				both[0]++
			case differs(x, s[i].want) == "":
				both[1]++
			default:
				t.Fatal(n, keep, s[i].name, "neither as it was, nor as it was to be")
			}
			ok(t, x.Batch(put("z", "1"))) // it goes on
		}
	}
	if both[0] < 50 || both[1] < 10 {
		t.Error("too few of one kind:", both)
	}
}

// P16.5: wherever the power fails, and however often, the tree has what the batches gave it that had no error, and perhaps the one under way.
func TestPower(t *testing.T) {
	both := [2]int{}
	for seed := range int64(24) {
		r := rand.New(rand.NewSource(seed))
		x := made(t, super.Layout{Sectors: 120 + r.Intn(30), Journal: 8 + r.Intn(12)})
		d := deviceOf(x)
		want := map[string]string{}
		fail := func() { d.Fail(1+r.Intn(60), r.Intn(2), r.Intn(2), r.Intn(2), r.Intn(2)) }
		fail()
		for n := range 120 {
			next := maps.Clone(want)
			var err error
			switch k := r.Intn(8); {
			case k < 5:
				l := someOps(r, 80, n)
				apply(next, l)
				err = x.Batch(l...)
			case k < 6:
				err = x.Move(r.Intn(len(x.Inode().Extents)))
			case k < 7:
				x.Enter()
			default:
				x.Leave(1 + r.Intn(6))
			}
			switch fault.Number(err) {
			case 0:
				want = next
				continue
			case api.ErrSpace:
				continue
			case api.ErrPower:
			default:
				t.Fatal(seed, n, err)
			}
			x = remounted(t, r, d)
			filesOf(x).Drive().Choose(r.Intn(9), r.Intn(9))
			if differs(x, next) == "" && !maps.Equal(next, want) {
				want = next
				both[1]++
			} else if s := differs(x, want); s == "" {
				both[0]++
			} else {
				t.Fatal(seed, n, s)
			}
			isHeld(t, x, 0, 0)
			fail()
		}
		if x = remounted(t, r, d); differs(x, want) != "" {
			t.Fatal(seed, "at the end")
		}
	}
	if both[0] < 50 || both[1] < 5 {
		t.Error("too few of one kind:", both)
	}
}

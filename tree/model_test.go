package tree_test

import (
	"maps"
	"math/rand"
	"slices"
	"strconv"
	"testing"

	"posthorse/api"
	"posthorse/cow"
	"posthorse/fault"
	"posthorse/inode"
	"posthorse/meta"
	"posthorse/page"
	"posthorse/super"
	"posthorse/tree"
)

// heldPage, heldExtent: what was dropped, and who was inside then.
type heldPage struct {
	n     int
	since []int
}

type heldExtent struct {
	e     inode.Extent
	since []int
}

// reader: somebody who is inside, and what the tree was when they entered.
type reader struct {
	ticket int
	then   view
}

// twin of a tree by the document's words. Pages it makes by layer 13, of the tree's own ones.
type twin struct {
	x       *tree.Tree
	entries map[string]string
	meta    meta.Meta
	size    int
	inside  []reader
	pages   []heldPage
	extents []heldExtent
}

func (w *twin) tickets() []int {
	var l []int
	for _, r := range w.inside {
		l = append(l, r.ticket)
	}
	return l
}

// numbers for new pages.
func (w *twin) numbers() []int {
	var l []int
	for n := 1; n < 1024; n++ {
		isHeld := func(h heldPage) bool { return h.n == n }
		if n >= w.size || !slices.Contains(w.meta.Used, n) && !slices.ContainsFunc(w.pages, isHeld) {
			l = append(l, n)
		}
	}
	return l
}

// batch of operations: the error that is to come of it, and the fresh pages, which their blocks are to have.
func (w *twin) batch(l []tree.Op) (error, []cow.Fresh) {
	c := cow.Begin(w.x, w.meta.Tree, w.numbers())
	next := maps.Clone(w.entries)
	for _, o := range l {
		var err error
		if o.Delete {
			_, err = c.Delete(o.Key)
		} else {
			_, err = c.Put(o.Key, o.Value)
		}
		if err != nil {
			return err, nil
		}
		apply(next, []tree.Op{o})
	}
	fresh, dropped := c.Fresh(), c.Dropped()
	if len(fresh)+len(dropped) == 0 {
		return nil, nil
	}
	size, used := w.size, map[int]bool{}
	for _, n := range w.meta.Used {
		used[n] = true
	}
	for _, p := range fresh {
		size, used[p.N] = max(size, p.N+1), true
	}
	if size-w.size > filesOf(w.x).Free() {
		return api.ErrSpace, nil
	}
	for _, n := range dropped {
		delete(used, n)
		if len(w.inside) > 0 {
			w.pages = append(w.pages, heldPage{n, w.tickets()})
		}
	}
	w.size, w.entries = size, next
	w.meta = meta.Meta{Batch: w.meta.Batch + 1, Tree: c.Tree(), Keys: len(next), Used: slices.Sorted(maps.Keys(used))}
	return nil, fresh
}

// moved: an extent was moved from there.
func (w *twin) moved(was inode.Extent) {
	if len(w.inside) > 0 {
		w.extents = append(w.extents, heldExtent{was, w.tickets()})
	}
}

// leave: who has that ticket isn't inside any more.
func (w *twin) leave(ticket int) {
	w.inside = slices.DeleteFunc(w.inside, func(r reader) bool { return r.ticket == ticket })
	gone := func(since []int) bool {
		return !slices.ContainsFunc(since, func(n int) bool { return slices.Contains(w.tickets(), n) })
	}
	w.pages = slices.DeleteFunc(w.pages, func(h heldPage) bool { return gone(h.since) })
	w.extents = slices.DeleteFunc(w.extents, func(h heldExtent) bool { return gone(h.since) })
}

// differs: in what the tree isn't as its twin; empty, where it is.
func (w *twin) differs(others int) string {
	if s := differs(w.x, w.entries); s != "" {
		return s
	}
	f := filesOf(w.x)
	pages, extents := w.x.Held()
	heldSectors := 0
	for _, h := range w.extents {
		heldSectors += h.e.Len
	}
	_, blocks := f.Layout().Data()
	switch {
	case !sameMeta(w.x.Meta(), w.meta):
		return "meta"
	case inode.Size(w.x.Inode()) != w.size:
		return "size"
	case pages != len(w.pages) || extents != len(w.extents):
		return "held"
	case f.Free() != blocks-w.size-others-heldSectors:
		return "free"
	}
	for _, r := range w.inside {
		if !r.then.stands(deviceOf(w.x)) {
			return "what a reader sees"
		}
	}
	return ""
}

// someOps by chance, of keys below a bound.
func someOps(r *rand.Rand, bound, n int) []tree.Op {
	var l []tree.Op
	k := r.Intn(bound)
	for range 1 + r.Intn(16) {
		if k = (k + 1) % bound; r.Intn(3) == 0 {
			k = r.Intn(bound)
		}
		if r.Intn(10) < 4+n/100%3 {
			l = append(l, del(key(k)))
		} else {
			l = append(l, put(key(k), strconv.Itoa(n)))
		}
	}
	return l
}

// act by chance: a batch, a move, somebody who enters or leaves, or another file's growth. The size of that one is told.
func (w *twin) act(t *testing.T, r *rand.Rand, n, others int) int {
	t.Helper()
	f := filesOf(w.x)
	switch k := r.Intn(12); {
	case k < 6:
		l := someOps(r, 150, n)
		want, fresh := w.batch(l)
		if err := w.x.Batch(l...); fault.Number(err) != fault.Number(want) {
			t.Fatal(n, err, want)
		}
		for _, p := range fresh {
			if s, err := f.Read(0, p.N); err != nil || s != sealedPage(t, p.Page) {
				t.Fatal(n, "page", p.N, err)
			}
		}
	case k < 8:
		x := w.x.Inode()
		i := r.Intn(len(x.Extents) + 1)
		err := w.x.Move(i)
		if err == nil {
			w.moved(x.Extents[i])
		} else if err != api.ErrSpace && i < len(x.Extents) {
			t.Fatal(n, err)
		}
	case k < 9 && len(w.inside) < 5:
		w.inside = append(w.inside, reader{w.x.Enter(), viewOf(t, w.x)})
	case k < 11 && len(w.inside) > 0:
		ticket := w.inside[r.Intn(len(w.inside))].ticket
		w.x.Leave(ticket)
		w.leave(ticket)
	case others > 6:
		_, err := f.Cut(1, others-3)
		ok(t, err)
		return others - 3
	case f.Free() > 30:
		ok(t, f.Grow(1, 2))
		ok(t, f.Write(1, block(others, "other"), block(others+1, "other")))
		return others + 2
	}
	return others
}

// P16.2 to P16.5: whatever is done by chance, the tree is as its twin.
func TestModel(t *testing.T) {
	refused := 0
	for seed := range int64(14) {
		r := rand.New(rand.NewSource(seed))
		x := made(t, super.Layout{Sectors: 110 + r.Intn(80), Journal: 8 + r.Intn(20)})
		filesOf(x).Drive().Choose(r.Intn(9), r.Intn(9), r.Intn(9))
		w := &twin{x: x, entries: map[string]string{}, size: 1}
		others := 0
		for n := range 200 {
			was := x.Inode().Version
			others = w.act(t, r, n, others)
			if s := w.differs(others); s != "" {
				t.Fatal(seed, n, s)
			}
			if was == x.Inode().Version && filesOf(x).Free() == 0 {
				refused++
			}
			if r.Intn(60) == 0 {
				x = again(t, x)
				w.x, w.inside, w.pages, w.extents = x, nil, nil, nil
				if s := w.differs(others); s != "" {
					t.Fatal(seed, n, "opened anew", s)
				}
			}
		}
	}
	if refused == 0 {
		t.Error("the device was never full")
	}
}

// P16.3: a batch into a tree of the Height 2, as the document has it: one put makes two fresh pages, and drops two.
func TestTwoPages(t *testing.T) {
	x := made(t, usual)
	fill(t, x, 40)
	x.Enter()
	was := x.Meta()
	ok(t, x.Batch(put(key(3), "x")))
	now := x.Meta()
	fresh := slices.DeleteFunc(slices.Clone(now.Used), func(n int) bool { return slices.Contains(was.Used, n) })
	if p, _ := x.Held(); was.Tree.Height != 2 || len(fresh) != 2 || p != 2 || len(now.Used) != len(was.Used) {
		t.Error(was, now, p)
	}
	for _, n := range fresh {
		if p, err := x.Page(n); err != nil || !page.Right(p) {
			t.Error(n, err)
		}
	}
}

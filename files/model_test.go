package files_test

import (
	"maps"
	"math/rand"
	"slices"
	"strconv"
	"testing"

	"posthorse/api"
	"posthorse/fault"
	"posthorse/files"
	"posthorse/inode"
	"posthorse/super"
)

// model of files: sector by sector, by the document's words.
type model struct {
	first, n int
	extents  [4][]inode.Extent
	version  [4]int
	held     map[int]int
	data     map[int]string // by sectors: what they have, where that is known
}

func modelOf(l super.Layout) *model {
	at, n := l.Data()
	return &model{first: at, n: n, held: map[int]int{}, data: map[int]string{}}
}

func (m *model) clone() *model {
	c := *m
	for i := range c.extents {
		c.extents[i] = slices.Clone(m.extents[i])
	}
	c.held, c.data = maps.Clone(m.held), maps.Clone(m.data)
	return &c
}

// sectors of a file, by its blocks.
func (m *model) sectors(file int) []int {
	var l []int
	for _, e := range m.extents[file] {
		for k := range e.Len {
			l = append(l, e.At+k)
		}
	}
	return l
}

// usable sectors: blocks that no file has, and that aren't held.
func (m *model) usable() map[int]bool {
	u := map[int]bool{}
	for s := m.first; s < m.first+m.n; s++ {
		u[s] = m.held[s] == 0
	}
	for file := range 4 {
		for _, s := range m.sectors(file) {
			u[s] = false
		}
	}
	return u
}

func (m *model) free() int {
	n := 0
	for _, free := range m.usable() {
		if free {
			n++
		}
	}
	return n
}

// length of the free run from a sector on.
func (m *model) length(u map[int]bool, s int) int {
	n := 0
	for u[s+n] {
		n++
	}
	return n
}

// run of so many: its first sector; 0: there is none.
func (m *model) run(n int) int {
	u := m.usable()
	for s := m.first; s < m.first+m.n; s++ {
		if m.length(u, s) >= n {
			return s
		}
	}
	return 0
}

func (m *model) longest() inode.Extent {
	u, best := m.usable(), inode.Extent{}
	for s := m.first; s < m.first+m.n; s++ {
		if n := m.length(u, s); n > best.Len {
			best = ext(s, n)
		}
	}
	return best
}

func (m *model) grow(file, n int) error {
	if n < 1 {
		return api.ErrArg
	}
	if m.free() < n {
		return api.ErrSpace
	}
	c := m.clone()
	for n > 0 {
		e := c.longest()
		if e.Len >= n {
			e = ext(c.run(n), n)
		}
		n -= e.Len
		c.version[file]++
		l := c.extents[file]
		if k := len(l) - 1; k >= 0 && l[k].At+l[k].Len == e.At {
			l[k].Len += e.Len
			continue
		}
		if len(l) == 36 {
			return api.ErrExtents
		}
		c.extents[file] = append(l, e)
	}
	*m = *c
	return nil
}

func (m *model) cut(file, n int) ([]inode.Extent, error) {
	if n < 0 || n > len(m.sectors(file)) {
		return nil, api.ErrArg
	}
	var left, gone []inode.Extent
	for _, e := range m.extents[file] {
		k := min(n, e.Len)
		n -= k
		if k > 0 {
			left = append(left, ext(e.At, k))
		}
		if k < e.Len {
			gone = append(gone, ext(e.At+k, e.Len-k))
		}
	}
	if gone != nil {
		m.extents[file] = left
		m.version[file]++
	}
	return gone, nil
}

func (m *model) move(file, i int) (inode.Extent, error) {
	if i < 0 || i >= len(m.extents[file]) {
		return inode.Extent{}, api.ErrArg
	}
	was := m.extents[file][i]
	to := m.run(was.Len)
	if to == 0 {
		return inode.Extent{}, api.ErrSpace
	}
	for k := range was.Len {
		if s, known := m.data[was.At+k]; known {
			m.data[to+k] = s
		} else {
			delete(m.data, to+k)
		}
	}
	m.extents[file][i].At = to
	m.version[file]++
	return was, nil
}

func (m *model) hold(e inode.Extent, held bool) {
	for s := e.At; s < e.At+e.Len && e.At >= 0; s++ {
		if held {
			m.held[s]++
		} else {
			m.held[s] = max(m.held[s]-1, 0)
		}
	}
}

// write data to a block: an error, where it isn't there.
func (m *model) write(file, at int, data string) error {
	l := m.sectors(file)
	if at < 0 || at >= len(l) {
		return api.ErrNone
	}
	m.data[l[at]] = data
	return nil
}

// forget what is held, and what sectors have that are no file's: a Move that came to nothing may have been laid there.
func (m *model) forget() {
	m.held = map[int]int{}
	for s, free := range m.usable() {
		if free {
			delete(m.data, s)
		}
	}
}

// agrees: are files as the model? What isn't known of a block's data isn't asked.
func (m *model) agrees(f *files.Files) bool {
	for file := range 4 {
		x, err := f.Inode(file)
		if err != nil || x.Version != m.version[file] || !slices.Equal(x.Extents, m.extents[file]) {
			return false
		}
		for at, s := range m.sectors(file) {
			want, known := m.data[s]
			if got, err := f.Read(file, at); err != nil || known && got != want {
				return false
			}
		}
	}
	return f.Free() == m.free()
}

// act on files, and on their model: an error of each.
type act func(f *files.Files, m *model) (error, error)

// anAct by chance. What is written is flushed, or committed, so that it lasts.
func anAct(r *rand.Rand, n int) act {
	file, k := r.Intn(4), r.Intn(7)
	data := full(strconv.Itoa(n))
	switch r.Intn(12) {
	case 0, 1, 2:
		return func(f *files.Files, m *model) (error, error) { return f.Grow(file, k), m.grow(file, k) }
	case 3:
		return func(f *files.Files, m *model) (error, error) {
			k := r.Intn(len(m.sectors(file)) + 2)
			l, err := f.Cut(file, k)
			want, merr := m.cut(file, k)
			if err == nil && !slices.Equal(l, want) {
				return api.ErrCorrupt, merr
			}
			return err, merr
		}
	case 4, 5, 6:
		return func(f *files.Files, m *model) (error, error) {
			i := r.Intn(len(m.extents[file]) + 1)
			was, err := f.Move(file, i)
			want, merr := m.move(file, i)
			if err == nil && was != want {
				return api.ErrCorrupt, merr
			}
			return err, merr
		}
	case 7:
		e, held := ext(r.Intn(45), r.Intn(8)), r.Intn(2) == 0
		return func(f *files.Files, m *model) (error, error) {
			f.Hold(e, held)
			m.hold(e, held)
			return nil, nil
		}
	case 8, 9:
		return func(f *files.Files, m *model) (error, error) {
			return f.Commit(file, files.Block{At: k, Data: data}), m.write(file, k, data)
		}
	case 10:
		return func(f *files.Files, m *model) (error, error) { return f.Checkpoint(), nil }
	}
	return func(f *files.Files, m *model) (error, error) {
		err, merr := f.Write(file, files.Block{At: k, Data: data}), m.write(file, k, data)
		if err == nil {
			err = f.Drive().Flush()
		}
		return err, merr
	}
}

// P10.2 to P10.4: whatever is done by chance, files are as their model.
func TestModel(t *testing.T) {
	for seed := range int64(60) {
		r := rand.New(rand.NewSource(seed))
		l := super.Layout{Sectors: 40 + r.Intn(20), Journal: 8 + r.Intn(12)}
		_, f := fresh(t, l)
		f.Drive().Choose(r.Intn(9), r.Intn(9), r.Intn(9))
		m := modelOf(l)
		for n := range 300 {
			err, want := anAct(r, n)(f, m)
			if fault.Number(err) != fault.Number(want) || !m.agrees(f) {
				t.Fatal(seed, n, err, want)
			}
			if r.Intn(40) == 0 {
				f = again(t, f)
				m.held = map[int]int{}
				if !m.agrees(f) {
					t.Fatal(seed, n, "opened anew")
				}
			}
		}
	}
}

// reopened: files behind a failure of the power, which may fail again while they are opened.
func reopened(t *testing.T, r *rand.Rand, f *files.Files) *files.Files {
	t.Helper()
	v := f.Drive()
	for {
		v.Device().Boot()
		if r.Intn(2) == 0 {
			v.Device().Fail(1+r.Intn(40), r.Intn(2), r.Intn(2), r.Intn(2))
		}
		f, err := files.Open(v)
		if err == nil {
			v.Device().Boot()
			return f
		}
		if fault.Number(err) != api.ErrPower {
			t.Fatal(err)
		}
	}
}

// P10.5: wherever the power fails, the files are what the calls without an error gave, and perhaps the one under way.
func TestPower(t *testing.T) {
	both := [2]int{}
	for seed := range int64(120) {
		r := rand.New(rand.NewSource(seed))
		l := super.Layout{Sectors: 40, Journal: 8 + r.Intn(12)}
		d, f := fresh(t, l)
		f.Drive().Choose(r.Intn(9), r.Intn(9), r.Intn(9))
		m := modelOf(l)
		d.Fail(1+r.Intn(60), r.Intn(2), r.Intn(2), r.Intn(2), r.Intn(2))
		for n := range 200 {
			next := m.clone()
			err, want := anAct(r, n)(f, next)
			if fault.Number(err) != api.ErrPower {
				if fault.Number(err) != fault.Number(want) {
					t.Fatal(seed, n, err, want)
				}
				m = next
				continue
			}
			f = reopened(t, r, f)
			m.forget()
			next.forget()
			switch {
			case next.agrees(f):
				m = next
				both[0]++
			case m.agrees(f):
				both[1]++
			default:
				t.Fatal(seed, n, "neither as it was, nor as it was to be")
			}
			d.Fail(1+r.Intn(60), r.Intn(2), r.Intn(2), r.Intn(2), r.Intn(2))
		}
		m.forget()
		if f = reopened(t, r, f); !m.agrees(f) {
			t.Fatal(seed, "at the end")
		}
	}
	if both[0] < 100 || both[1] < 100 {
		t.Error("too few of one kind:", both)
	}
}

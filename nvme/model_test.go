package nvme_test

import (
	"math/rand"
	"slices"
	"strconv"
	"testing"

	"posthorse/api"
	"posthorse/nvme"
)

// model of a device: all that was ever completed, one behind the other, from which is told by the document's words what a read finds and what lasts.
type model struct {
	log     []nvme.Command
	waiting []nvme.Command
	down    bool
	failAt  int
	keep    []int
	counts  [3]int
}

// flushed: was a Flush completed behind the place i?
func (m *model) flushed(i int) bool {
	return slices.ContainsFunc(m.log[i:], func(c nvme.Command) bool { return c.Kind == nvme.Flush })
}

// forced: was a Force of the same sector completed behind the place i?
func (m *model) forced(i int) bool {
	return slices.ContainsFunc(m.log[i+1:], func(c nvme.Command) bool {
		return c.Kind == nvme.Force && c.Sector == m.log[i].Sector
	})
}

func (m *model) look(sector int) string {
	data := full("")
	for _, c := range m.log {
		if c.Sector == sector && (c.Kind == nvme.Write || c.Kind == nvme.Force) {
			data = c.Data
		}
	}
	return data
}

// crash: the log becomes one of Forces of what lasts.
func (m *model) crash(keep []int) {
	var lasts, unsure []nvme.Command
	for i, c := range m.log {
		switch {
		case c.Kind == nvme.Force, c.Kind == nvme.Write && m.flushed(i):
			lasts = append(lasts, c)
		case c.Kind == nvme.Write && !m.forced(i):
			unsure = append(unsure, c)
		}
	}
	for _, c := range m.waiting {
		if c.Kind == nvme.Write || c.Kind == nvme.Force {
			unsure = append(unsure, c)
		}
	}
	for i, c := range unsure {
		if len(keep) > 0 && keep[i%len(keep)] != 0 {
			lasts = append(lasts, c)
		}
	}
	for i := range lasts {
		lasts[i].Kind = nvme.Force
	}
	m.log, m.waiting, m.down = lasts, nil, true
}

func (m *model) complete(i int) (nvme.Command, error) {
	if m.failAt > 0 {
		if m.failAt--; m.failAt == 0 {
			m.crash(m.keep)
			return nvme.Command{}, api.ErrPower
		}
	}
	c := m.waiting[i]
	m.waiting = slices.Delete(slices.Clone(m.waiting), i, i+1)
	if c.Kind == nvme.Read {
		c.Data = m.look(c.Sector)
	}
	m.counts[[]int{0, 0, 1, 1, 2}[c.Kind]]++
	m.log = append(m.log, c)
	return c, nil
}

const modelSectors, modelDepth = 4, 5

// P4.1 to P4.3: whatever is done, in whatever order, a device does as the document's words say.
func TestModel(t *testing.T) {
	for seed := range int64(300) {
		r := rand.New(rand.NewSource(seed))
		d, m := device(t, modelSectors, modelDepth), &model{}
		for step := range 200 {
			act(t, r, d, m, step)
			same(t, d, m)
			if r.Intn(10) == 0 {
				d = spoilOriginal(d)
			}
			if t.Failed() {
				t.Fatal("seed", seed, "step", step)
			}
		}
	}
}

// spoilOriginal: from now on the copy is gone on with; whatever becomes of the original.
func spoilOriginal(d *nvme.Device) *nvme.Device {
	e := d.Copy()
	d.Fail(1, 1)
	d.Submit(force(0, "spoilt"))
	d.Complete(0)
	d.Crash(1)
	return e
}

func act(t *testing.T, r *rand.Rand, d *nvme.Device, m *model, step int) {
	t.Helper()
	keep := make([]int, r.Intn(4))
	for i := range keep {
		keep[i] = r.Intn(2)
	}
	switch n := r.Intn(40); {
	case n == 0:
		d.Crash(keep...)
		if !m.down {
			m.crash(keep)
		}
	case n < 4 && m.down, n == 1:
		d.Boot()
		m.down, m.failAt = false, 0
	case n == 4:
		at := r.Intn(8) - 1
		d.Fail(at, keep...)
		m.failAt, m.keep = max(at, 1), keep
	case n < 22:
		c := nvme.Command{Kind: 1 + r.Intn(4), Sector: r.Intn(modelSectors), Data: full(strconv.Itoa(step)), Tag: step}
		want := error(nil)
		if m.down {
			want = api.ErrPower
		} else if len(m.waiting) == modelDepth {
			want = api.ErrQueue
		}
		if err := d.Submit(c); err != want {
			t.Error("submit", err, want)
		}
		if c.Kind == nvme.Read || c.Kind == nvme.Flush {
			c.Data = ""
		}
		if c.Kind == nvme.Flush {
			c.Sector = 0
		}
		if want == nil {
			m.waiting = append(m.waiting, c)
		}
	default:
		actComplete(t, r.Intn(modelDepth+1), d, m)
	}
}

func actComplete(t *testing.T, i int, d *nvme.Device, m *model) {
	t.Helper()
	var want nvme.Command
	wantErr := error(api.ErrPower)
	if !m.down && i >= len(m.waiting) {
		wantErr = api.ErrArg
	} else if !m.down {
		want, wantErr = m.complete(i)
	}
	if c, err := d.Complete(i); c != want || err != wantErr {
		t.Error("complete", c.Kind, err, wantErr)
	}
}

// same: is all that a device tells what its model says?
func same(t *testing.T, d *nvme.Device, m *model) {
	t.Helper()
	if r, w, f := d.Counts(); [3]int{r, w, f} != m.counts {
		t.Error("counts", r, w, f, m.counts)
	}
	if d.Down() != m.down || !slices.Equal(d.Pending(), m.waiting) {
		t.Error("down or pending")
	}
	for i := range modelSectors {
		want, wantErr := m.look(i), error(nil)
		if m.down {
			want, wantErr = "", api.ErrPower
		}
		if s, err := d.Look(i); s != want || err != wantErr {
			t.Error("look", i, err)
		}
	}
}

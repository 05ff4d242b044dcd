package drive_test

import (
	"math/rand"
	"slices"
	"strconv"
	"testing"

	"posthorse/api"
	"posthorse/drive"
	"posthorse/fault"
	"posthorse/nvme"
)

// twin of a drive, on a device of its own, that goes by the document's words and tells its commands by their Tags.
type twin struct {
	d       *nvme.Device
	choices []int
	taken   int
	tag     int
}

const twinTag = 1 << 40

// own: the places of the twin's commands in the queue.
func (w *twin) own() []int {
	var l []int
	for i, c := range w.d.Pending() {
		if c.Tag >= twinTag {
			l = append(l, i)
		}
	}
	return l
}

func (w *twin) submit(c nvme.Command) error {
	w.tag++
	c.Tag = twinTag + w.tag
	return w.d.Submit(c)
}

// complete one of the own commands: its error, wrapped, and its data.
func (w *twin) complete(op string) (string, error) {
	own := w.own()
	place := 0
	if len(own) > 1 && len(w.choices) > 0 {
		c := w.choices[w.taken%len(w.choices)]
		w.taken++
		place = (c%len(own) + len(own)) % len(own)
	}
	sector := w.d.Pending()[own[place]].Sector
	c, err := w.d.Complete(own[place])
	return c.Data, fault.Wrap(op, sector, err)
}

func (w *twin) one(op string, c nvme.Command) (string, error) {
	if err := w.submit(c); err != nil {
		return "", fault.Wrap(op, c.Sector, err)
	}
	return w.complete(op)
}

func (w *twin) write(l []drive.Put) error {
	var first error
	for _, p := range l {
		c := nvme.Command{Kind: nvme.Write, Sector: p.Sector, Data: p.Data}
		err := w.submit(c)
		if err == api.ErrQueue && len(w.own()) > 0 {
			if _, first = w.complete("write"); first != nil {
				break
			}
			err = w.submit(c)
		}
		if err != nil {
			first = fault.Wrap("write", p.Sector, err)
			break
		}
	}
	for len(w.own()) > 0 {
		if _, err := w.complete("write"); first == nil {
			first = err
		}
	}
	return first
}

// act: one call at random, at both; what the two answered.
func act(r *rand.Rand, v *drive.Drive, w *twin, step int) (got, want string, gotErr, wantErr error) {
	random := func() drive.Put {
		p := put(r.Intn(6), strconv.Itoa(step)+"-"+strconv.Itoa(r.Intn(100)))
		if r.Intn(40) == 0 {
			p.Sector = 6 - 7*r.Intn(2)
		}
		if r.Intn(40) == 0 {
			p.Data = "short"
		}
		return p
	}
	switch r.Intn(8) {
	case 0:
		p := random()
		got, gotErr = v.Read(p.Sector)
		want, wantErr = w.one("read", nvme.Command{Kind: nvme.Read, Sector: p.Sector})
	case 1:
		p := random()
		gotErr = v.Force(p)
		_, wantErr = w.one("force", nvme.Command{Kind: nvme.Force, Sector: p.Sector, Data: p.Data})
	case 2:
		gotErr = v.Flush()
		_, wantErr = w.one("flush", nvme.Command{Kind: nvme.Flush})
	case 3:
		w.choices, w.taken = nil, 0
		for range r.Intn(4) {
			w.choices = append(w.choices, r.Intn(21)-10)
		}
		v.Choose(w.choices...)
	default:
		var l []drive.Put
		for range r.Intn(9) {
			l = append(l, random())
		}
		gotErr = v.Write(l...)
		wantErr = w.write(l)
	}
	return
}

// others: what somebody else does at both devices.
func others(r *rand.Rand, l ...*nvme.Device) {
	n, i, keep := r.Intn(30), r.Intn(4), []int{r.Intn(2), r.Intn(2), r.Intn(2)}
	c := nvme.Command{Kind: 1 + r.Intn(4), Sector: r.Intn(6), Data: full("other" + strconv.Itoa(r.Intn(100))), Tag: 1<<30 + r.Intn(40)}
	for _, d := range l {
		switch {
		case d.Down():
			d.Boot()
		case n == 0:
			d.Fail(i*2+1, keep...)
		case n == 1:
			d.Crash(keep...)
		case n < 10:
			d.Submit(c)
		case n < 20:
			d.Complete(i)
		}
	}
}

// sameDevice: are two devices the same in all but their own Tags, and in what lasts?
func sameDevice(t *testing.T, d, e *nvme.Device) {
	t.Helper()
	dr, dw, df := d.Counts()
	er, ew, ef := e.Counts()
	if dr != er || dw != ew || df != ef || d.Down() != e.Down() || !slices.Equal(d.Pending(), e.Pending()) {
		t.Error("counts, power or pending")
	}
	d, e = d.Copy(), e.Copy()
	for _, keep := range [][]int{nil, {1, 0}, {0, 1, 1}} {
		for i := range 6 {
			s, err := d.Look(i)
			if u, err2 := e.Look(i); s != u || err != err2 {
				t.Error("sector", i, err, err2)
			}
		}
		d.Crash(keep...)
		e.Crash(keep...)
		d.Boot()
		e.Boot()
	}
}

// P5.1 to P5.3: whatever is done, and whatever others do meanwhile, a drive does as the document's words say.
func TestModel(t *testing.T) {
	for seed := range int64(300) {
		r := rand.New(rand.NewSource(seed))
		d, v := device(t, 6, 1+r.Intn(6))
		w := &twin{d: d.Copy()}
		for step := range 100 {
			got, want, gotErr, wantErr := act(r, v, w, step)
			if got != want || fault.Text(gotErr) != fault.Text(wantErr) {
				t.Error(gotErr, wantErr)
			}
			others(r, d, w.d)
			sameDevice(t, d, w.d)
			if t.Failed() {
				t.Fatal("seed", seed, "step", step)
			}
		}
	}
}

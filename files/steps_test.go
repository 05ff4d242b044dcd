package files_test

import (
	"strings"
	"testing"

	"posthorse/api"
	"posthorse/fault"
	"posthorse/files"
	"posthorse/nvme"
	"posthorse/super"
)

// steps of a call: by which operations the error comes, where the power fails at the first completion, at the second one, and so on. (One behind the other they tell what the call does, and in which order.)
func steps(t *testing.T, begin func() (*nvme.Device, func() error)) string {
	t.Helper()
	var l []string
	for n := 1; ; n++ {
		d, call := begin()
		d.Fail(n)
		err := call()
		if err == nil {
			return strings.Join(l, ", ")
		}
		if fault.Number(err) != api.ErrPower {
			t.Error(n, err)
		}
		l = append(l, strings.Join(fault.Ops(err), " "))
	}
}

// times: a step several times.
func times(n int, step string) string { return strings.Repeat(step+", ", n) }

// The steps of layer 6's calls.
func committing(n int) string {
	return times(n+1, "commit write") + "commit flush, commit force"
}

func checkpointing(n int) string {
	return times(n, "checkpoint write") + "checkpoint flush, checkpoint force"
}

func isSteps(t *testing.T, name, got, want string) {
	t.Helper()
	if got != want {
		t.Errorf("%s: %s, want %s", name, got, want)
	}
}

// P10.1: what Format and Open do, in order, and each of their errors is wrapped.
func TestMountSteps(t *testing.T) {
	format := steps(t, func() (*nvme.Device, func() error) {
		d, v := device(t, 40)
		return d, func() error { return files.Format(v, small) }
	})
	isSteps(t, "format", format, times(7, "format format read")+"format format force, "+times(5, "format write")+"format flush, format force")
	mount := steps(t, func() (*nvme.Device, func() error) {
		d, v := device(t, 40)
		ok(t, files.Format(v, small))
		return d, func() error {
			_, err := files.Open(v)
			return err
		}
	})
	isSteps(t, "open", mount, "mount read, "+times(8, "mount open read")+"mount open flush, mount open force, "+times(4, "mount read")+"mount read")
}

// P10.3, P10.4: what the other calls do, in order. Ahead of each three sectors wait: the set, the inode, and the block 1.
func TestCallSteps(t *testing.T) {
	for _, c := range []struct {
		name string
		call func(f *files.Files) error
		want string
	}{
		{"grow", func(f *files.Files) error { return f.Grow(0, 3) }, committing(2)},
		{"cut", func(f *files.Files) error { _, err := f.Cut(0, 1); return err }, checkpointing(3) + ", " + committing(2)},
		{"cut nothing", func(f *files.Files) error { _, err := f.Cut(0, 2); return err }, ""},
		{"move", func(f *files.Files) error { _, err := f.Move(0, 0); return err }, checkpointing(3) + ", read, read, write, write, flush, " + committing(2)},
		{"read", func(f *files.Files) error { _, err := f.Read(0, 0); return err }, "read"},
		{"read what waits", func(f *files.Files) error { _, err := f.Read(0, 1); return err }, ""},
		{"write", func(f *files.Files) error { return f.Write(0, block(0, "b")) }, "write"},
		{"write what waits", func(f *files.Files) error { return f.Write(0, block(0, "b"), block(1, "c")) }, checkpointing(3) + ", write, write"},
		{"commit", func(f *files.Files) error { return f.Commit(0, block(0, "b")) }, committing(1)},
		{"checkpoint", func(f *files.Files) error { return f.Checkpoint() }, checkpointing(3)},
	} {
		got := steps(t, func() (*nvme.Device, func() error) {
			d, f := fresh(t, super.Layout{Sectors: 60, Journal: 20})
			ok(t, f.Grow(0, 2))
			ok(t, f.Commit(0, block(1, "a")))
			return d, func() error { return c.call(f) }
		})
		isSteps(t, c.name, got, c.want)
	}
}

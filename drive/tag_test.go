package drive

import (
	"testing"

	"posthorse/nvme"
)

// A drive's commands have Tags of 2^30 and above, each a new one. They are over when a call ends, so this looks within one.
func TestTags(t *testing.T) {
	d, err := nvme.New(8, 8)
	if err != nil {
		t.Fatal(err)
	}
	v := New(d)
	seen := map[int]int{}
	for range 20 {
		o := v.begin()
		for sector := range 5 {
			if err := o.submit(nvme.Command{Kind: nvme.Read, Sector: sector}); err != nil {
				t.Fatal(err)
			}
		}
		for _, c := range d.Pending() {
			seen[c.Tag]++
			if c.Tag < 1<<30 || seen[c.Tag] > 1 {
				t.Errorf("tag %d", c.Tag)
			}
		}
		if err := o.completeAll(); err != nil {
			t.Fatal(err)
		}
	}
	if len(seen) != 100 {
		t.Error(len(seen))
	}
}

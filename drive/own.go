package drive

import (
	"errors"
	"slices"

	"posthorse/api"
	"posthorse/fault"
	"posthorse/nvme"
)

// firstTag of a drive's commands: others have theirs below it.
const firstTag = 1 << 30

// words of the commands' kinds, for errors.
var words = [...]string{nvme.Read: "read", nvme.Write: "write", nvme.Force: "force", nvme.Flush: "flush"}

// own commands of one call that wait, as they were submitted. As nobody else submits while the call goes on, they stand behind all others in the queue: so they are told by their places, whatever Tags others have.
type own struct {
	drive   *Drive
	others  int // how many commands wait ahead of them
	waiting []nvme.Command
}

// begin a call: none of its own commands waits as yet.
func (v *Drive) begin() *own {
	return &own{drive: v, others: len(v.device.Pending())}
}

// wrap a device's error at a command.
func wrap(c nvme.Command, err error) error {
	return fault.Wrap(words[c.Kind], c.Sector, err)
}

// submitAll: writes of sectors, in order, up to the first error.
func (o *own) submitAll(l []Put) error {
	for _, p := range l {
		if err := o.submit(nvme.Command{Kind: nvme.Write, Sector: p.Sector, Data: p.Data}); err != nil {
			return err
		}
	}
	return nil
}

// submit a command. Where the queue has no room for it, an own one is completed first.
func (o *own) submit(c nvme.Command) error {
	c.Tag = firstTag + o.drive.tagged
	o.drive.tagged++
	err := o.drive.device.Submit(c)
	if errors.Is(err, api.ErrQueue) && len(o.waiting) > 0 {
		if _, err := o.complete(); err != nil {
			return err
		}
		err = o.drive.device.Submit(c)
	}
	if err != nil {
		return wrap(c, err)
	}
	o.waiting = append(o.waiting, c)
	return nil
}

// complete that one of them which the choices say.
func (o *own) complete() (nvme.Command, error) {
	i := o.drive.pick(len(o.waiting))
	c := o.waiting[i]
	done, err := o.drive.device.Complete(o.others + i)
	if err != nil {
		o.waiting = nil // the power has failed, and nothing waits any more
		return nvme.Command{}, wrap(c, err)
	}
	o.waiting = slices.Delete(o.waiting, i, i+1)
	return done, nil
}

// completeAll that wait, up to the first error.
func (o *own) completeAll() error {
	for len(o.waiting) > 0 {
		if _, err := o.complete(); err != nil {
			return err
		}
	}
	return nil
}

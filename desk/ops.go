package desk

import (
	"frankpledge/api"
	"frankpledge/feed"
	"frankpledge/lease"
)

// write does an Ask that is not a Fetch, and tells the cards that changed.
func (d *Desk) write(m api.Msg, now int64) ([]api.Card, api.Errno) {
	switch m.Op {
	case api.Register:
		return d.register(m, now)
	case api.Renew:
		return nil, d.renew(m.Key, now)
	case api.Cancel:
		return d.cancel(m.Key, now)
	}
	return d.override(m, now)
}

func (d *Desk) register(m api.Msg, now int64) ([]api.Card, api.Errno) {
	if m.N < 1 || m.N > api.MaxLease || m.Status != api.Up && m.Status != api.Down {
		return nil, api.ErrArg
	}
	c := api.Card{Key: m.Key, Status: m.Status, Lease: m.N, Stamp: d.next(m.Key, now)}
	old, in := d.shelf.Get(m.Key)
	return d.change(lease.Register(old, in, c, now))
}

// renew puts the entry on the shelf, and does not set it: that it was seen is no change.
func (d *Desk) renew(k api.Key, now int64) api.Errno {
	old, in := d.shelf.Get(k)
	e, live := lease.Renew(old, now)
	if !in || !live {
		return api.ErrNone
	}
	d.guard.Renew()
	return d.shelf.Put(e)
}

func (d *Desk) cancel(k api.Key, now int64) ([]api.Card, api.Errno) {
	old, in := d.shelf.Get(k)
	e, live := lease.Cancel(old, d.next(k, now), now)
	if !in || !live {
		return nil, api.ErrNone
	}
	return d.change(e)
}

func (d *Desk) override(m api.Msg, now int64) ([]api.Card, api.Errno) {
	if m.Status < 0 || m.Status > api.Out {
		return nil, api.ErrArg
	}
	old, in := d.shelf.Get(m.Key)
	e, live := lease.Override(old, m.Status, d.next(m.Key, now))
	if !in || !live {
		return nil, api.ErrNone
	}
	return d.change(e)
}

func (d *Desk) fetch(m api.Msg) api.Msg {
	var answer api.Msg
	if m.Seq == -1 {
		answer = feed.Full(&d.shelf, &d.recent)
	} else {
		answer = feed.Delta(&d.shelf, &d.recent, m.Seq)
	}
	answer.Tag = m.Tag
	return answer
}

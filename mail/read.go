package mail

import (
	"math"

	"frankpledge/api"
	"frankpledge/fault"
	"frankpledge/pack"
)

// Read tells the message whose bytes b are.
func Read(b []byte) (api.Msg, error) {
	m, err := take(b)
	// What was not read wholly is not asked any further.
	if !fault.Has(err, api.ErrForm) {
		err = Right(m)
	}
	if fault.Code(err) != api.OK {
		return api.Msg{}, fault.Wrap("read", err)
	}
	return m, nil
}

// reader is a pack.Reader that remembers numbers that no field can hold.
type reader struct {
	*pack.Reader
	wrong bool
}

// take reads a message, right or not, from b.
func take(b []byte) (api.Msg, error) {
	r := &reader{Reader: pack.New(b)}
	m := api.Msg{Kind: r.Byte()}
	switch m.Kind {
	case api.Ask:
		r.head(&m)
		m.N = r.Int()
		m.Status = r.Byte()
		m.Seq = r.Int()
	case api.Answer:
		r.head(&m)
		m.Code = r.Byte()
		m.Full = r.flag()
		m.Seq = r.Int()
		m.Sum = r.sum()
		m.Cards = r.cards()
	case api.Push, api.Digest:
		m.Cards = r.cards()
	case api.Pull:
		m.Keys = r.keys()
	}
	if !r.Done() || r.wrong {
		return api.Msg{}, fault.New("bytes", api.ErrForm)
	}
	return m, nil
}

// head reads what an Ask and an Answer begin with.
func (r *reader) head(m *api.Msg) {
	m.Tag = r.Int()
	m.Op = r.Byte()
	m.Key = r.key()
}

func (r *reader) key() api.Key {
	app := r.Text()
	return api.Key{App: app, ID: r.Text()}
}

func (r *reader) flag() bool {
	n := r.Byte()
	if n > 1 {
		r.wrong = true
	}
	return n == 1
}

func (r *reader) sum() uint32 {
	n := r.Int()
	if n < 0 || n > math.MaxUint32 {
		r.wrong = true
	}
	return uint32(n)
}

func (r *reader) keys() []api.Key {
	var l []api.Key
	for range r.Byte() {
		l = append(l, r.key())
	}
	return l
}

func (r *reader) cards() []api.Card {
	var l []api.Card
	for range r.Byte() {
		l = append(l, r.card())
	}
	return l
}

func (r *reader) card() api.Card {
	c := api.Card{Key: r.key()}
	c.Status = r.Byte()
	c.Over = r.Byte()
	c.Lease = r.Int()
	c.Stamp.T = r.Int()
	c.Stamp.Node = r.Byte()
	c.Stamp.N = r.Int()
	c.Gone = r.flag()
	return c
}

package mail_test

import (
	"bytes"
	"errors"
	"math"
	"slices"
	"strings"
	"testing"

	"frankpledge/api"
	"frankpledge/fault"
	"frankpledge/mail"
)

var ab = api.Key{App: "a", ID: "b"}

func oneCard() api.Card {
	return api.Card{Key: ab, Status: api.Up, Over: api.Out, Lease: 258, Stamp: api.Stamp{T: 7, Node: 3, N: 9}, Gone: true}
}

func ask() api.Msg {
	return api.Msg{Kind: api.Ask, Tag: 5, Op: api.Register, Key: ab, N: 30, Status: api.Up}
}

func answer() api.Msg {
	return api.Msg{Kind: api.Answer, Tag: 6, Op: api.Fetch, Code: 2, Full: true, Seq: 3, Sum: 0xfedcba98, Cards: []api.Card{oneCard()}}
}

// samples are messages that are right, of each kind.
func samples() []api.Msg {
	return []api.Msg{
		ask(),
		{Kind: api.Ask, Op: api.Fetch, Seq: -1},
		{Kind: api.Ask, Op: api.Override, Key: ab, N: math.MinInt64, Tag: math.MaxInt64, Status: 255, Seq: math.MaxInt64},
		answer(),
		{Kind: api.Answer, Op: api.Renew, Key: ab, Code: 255, Tag: -1},
		{Kind: api.Answer, Op: api.Cancel, Key: ab, Seq: -1, Sum: math.MaxUint32},
		{Kind: api.Push},
		{Kind: api.Push, Cards: []api.Card{oneCard(), oneCard()}},
		{Kind: api.Digest, Cards: slices.Repeat([]api.Card{oneCard()}, 2*api.MaxCards)},
		{Kind: api.Pull},
		{Kind: api.Pull, Keys: slices.Repeat([]api.Key{ab, {App: "x1", ID: strings.Repeat("z", api.MaxText)}}, api.MaxCards)},
	}
}

// long writes n as pack.Int does.
func long(n int64) []byte {
	var b []byte
	for i := 7; i >= 0; i-- {
		b = append(b, byte(uint64(n)>>(8*i)))
	}
	return b
}

func tells(t *testing.T, where string, err error, code api.Errno, path ...string) {
	t.Helper()
	if fault.Code(err) != code || !slices.Equal(fault.Path(err), path) {
		t.Errorf("%s: %v: %v, %d; not %v, %d", where, err, fault.Path(err), int(fault.Code(err)), path, int(code))
	}
}

func TestRight(t *testing.T) {
	for i, m := range samples() {
		if err := mail.Right(m); err != nil {
			t.Errorf("P6.1: Right %d: %v", i, err)
		}
	}
}

func TestKinds(t *testing.T) {
	for _, kind := range []int{0, -1, 6, 9, math.MaxInt, math.MinInt} {
		tells(t, "P6.1: a Kind that is none", mail.Right(api.Msg{Kind: kind, Seq: -9}), api.ErrForm, "kind")
	}
}

// Each field that a kind has not must be zero.
func TestZero(t *testing.T) {
	sets := map[string]func(m *api.Msg){
		"Tag":    func(m *api.Msg) { m.Tag = 1 },
		"Op":     func(m *api.Msg) { m.Op = api.Renew },
		"Key":    func(m *api.Msg) { m.Key = ab },
		"KeyID":  func(m *api.Msg) { m.Key.ID = "b" },
		"N":      func(m *api.Msg) { m.N = 1 },
		"Status": func(m *api.Msg) { m.Status = 1 },
		"Seq":    func(m *api.Msg) { m.Seq = -1 },
		"Code":   func(m *api.Msg) { m.Code = 1 },
		"Full":   func(m *api.Msg) { m.Full = true },
		"Sum":    func(m *api.Msg) { m.Sum = 1 },
		"Cards":  func(m *api.Msg) { m.Cards = []api.Card{oneCard()} },
		"Keys":   func(m *api.Msg) { m.Keys = []api.Key{ab} },
	}
	has := map[int]string{
		api.Ask:    " Tag Op Key N Status Seq ",
		api.Answer: " Tag Op Key Code Full Seq Sum Cards ",
		api.Push:   " Cards ",
		api.Digest: " Cards ",
		api.Pull:   " Keys ",
	}
	for kind, fields := range has {
		for name, set := range sets {
			m := api.Msg{Kind: kind}
			if kind == api.Ask || kind == api.Answer {
				m.Op, m.Key = api.Renew, ab
			}
			set(&m)
			err := mail.Right(m)
			if strings.Contains(fields, " "+strings.TrimSuffix(name, "ID")+" ") {
				if err != nil {
					t.Errorf("P6.1: kind %d has %s: %v", kind, name, err)
				}
				continue
			}
			tells(t, "P6.1: "+name, err, api.ErrForm, "zero")
		}
	}
	if err := mail.Right(api.Msg{Kind: api.Pull, Cards: []api.Card{}}); err != nil {
		t.Errorf("R4: an empty list is none: %v", err)
	}
}

func TestOps(t *testing.T) {
	for _, kind := range []int{api.Ask, api.Answer} {
		for _, m := range []api.Msg{
			{Op: 0, Key: ab},
			{Op: 6, Key: ab},
			{Op: -1, Key: ab},
			{Op: api.Register},
			{Op: api.Renew, Key: api.Key{App: "a"}},
			{Op: api.Cancel, Key: api.Key{ID: "a"}},
			{Op: api.Override, Key: api.Key{App: "A", ID: "b"}},
			{Op: api.Override, Key: api.Key{App: "a", ID: strings.Repeat("b", api.MaxText+1)}},
			{Op: api.Fetch, Key: ab},
			{Op: api.Fetch, Key: api.Key{ID: "b"}},
			{Op: api.Fetch, Key: api.Key{App: "?"}},
		} {
			m.Kind = kind
			tells(t, "P6.1: op", mail.Right(m), api.ErrForm, "op")
		}
		for op := api.Register; op < api.Fetch; op++ {
			if err := mail.Right(api.Msg{Kind: kind, Op: op, Key: ab}); err != nil {
				t.Errorf("P6.1: op %d: %v", op, err)
			}
		}
	}
}

func TestNumbers(t *testing.T) {
	for i, change := range []func(m *api.Msg){
		func(m *api.Msg) { m.Code = -1 },
		func(m *api.Msg) { m.Code = 256 },
		func(m *api.Msg) { m.Seq = -2 },
		func(m *api.Msg) { m.Seq = math.MinInt64 },
	} {
		m := answer()
		change(&m)
		if err := mail.Right(m); fault.Code(err) != api.ErrArg || fault.Path(err)[0] != "number" {
			t.Errorf("P6.1: number %d: %v", i, err)
		}
	}
	for _, status := range []int{-1, 256} {
		m := ask()
		m.Status = status
		tells(t, "P6.1: a Status", mail.Right(m), api.ErrArg, "number")
	}
}

func TestCards(t *testing.T) {
	many := slices.Repeat([]api.Card{oneCard()}, 2*api.MaxCards+1)
	keys := slices.Repeat([]api.Key{ab}, 2*api.MaxCards+1)
	tells(t, "P6.1: a Push", mail.Right(api.Msg{Kind: api.Push, Cards: many}), api.ErrLong, "cards")
	tells(t, "P6.1: a Pull", mail.Right(api.Msg{Kind: api.Pull, Keys: keys}), api.ErrLong, "cards")
	wrong := oneCard()
	wrong.Lease = 0
	tells(t, "P6.1: a wrong card", mail.Right(api.Msg{Kind: api.Digest, Cards: []api.Card{oneCard(), wrong}}), api.ErrArg, "card")
	tells(t, "P6.1: a wrong key", mail.Right(api.Msg{Kind: api.Pull, Keys: []api.Key{ab, {App: "a"}}}), api.ErrArg, "card")
	tells(t, "P6.1: a wrong key", mail.Right(api.Msg{Kind: api.Pull, Keys: []api.Key{{ID: "a"}}}), api.ErrArg, "card")
}

// Of several faults the first one of the chapter's order is told.
func TestOrder(t *testing.T) {
	wrong := slices.Repeat([]api.Card{{}}, 2*api.MaxCards+1)
	m := api.Msg{Kind: 7, N: 1, Op: 9, Seq: -2, Cards: wrong}
	tells(t, "P6.1: all is wrong", mail.Right(m), api.ErrForm, "kind")
	m.Kind = api.Answer
	tells(t, "P6.1: but the kind", mail.Right(m), api.ErrForm, "zero")
	m.N = 0
	tells(t, "P6.1: but the zeroes", mail.Right(m), api.ErrForm, "op")
	m.Op = api.Fetch
	tells(t, "P6.1: but the op", mail.Right(m), api.ErrArg, "number")
	m.Seq = -1
	tells(t, "P6.1: but the number", mail.Right(m), api.ErrLong, "cards")
	m.Cards = wrong[:3]
	tells(t, "P6.1: but how many", mail.Right(m), api.ErrArg, "card")
	m.Cards = nil
	tells(t, "P6.1: nothing", mail.Right(m), api.OK)
}

func TestBytes(t *testing.T) {
	cardBytes := slices.Concat([]byte{1, 'a', 1, 'b', 1, 3}, long(258), long(7), []byte{3}, long(9), []byte{1})
	for i, c := range []struct {
		m    api.Msg
		want []byte
	}{
		{ask(), slices.Concat([]byte{1}, long(5), []byte{1, 1, 'a', 1, 'b'}, long(30), []byte{1}, long(0))},
		{api.Msg{Kind: api.Ask, Op: api.Fetch, Tag: -2, Seq: -1}, slices.Concat([]byte{1}, long(-2), []byte{5, 0, 0}, long(0), []byte{0}, long(-1))},
		{answer(), slices.Concat([]byte{2}, long(6), []byte{5, 0, 0, 2, 1}, long(3), long(0xfedcba98), []byte{1}, cardBytes)},
		{api.Msg{Kind: api.Answer, Op: api.Renew, Key: ab}, slices.Concat([]byte{2}, long(0), []byte{2, 1, 'a', 1, 'b', 0, 0}, long(0), long(0), []byte{0})},
		{api.Msg{Kind: api.Push, Cards: []api.Card{oneCard(), oneCard()}}, slices.Concat([]byte{3, 2}, cardBytes, cardBytes)},
		{api.Msg{Kind: api.Digest, Cards: []api.Card{oneCard()}}, slices.Concat([]byte{4, 1}, cardBytes)},
		{api.Msg{Kind: api.Pull, Keys: []api.Key{ab, ab}}, []byte{5, 2, 1, 'a', 1, 'b', 1, 'a', 1, 'b'}},
	} {
		if got, err := mail.Bytes(c.m); err != nil || !bytes.Equal(got, c.want) {
			t.Errorf("P6.2: Bytes %d: %v, %v, not %v", i, got, err, c.want)
		}
	}
}

func TestBytesRefuses(t *testing.T) {
	b, err := mail.Bytes(api.Msg{Kind: 9})
	tells(t, "P6.2: Bytes of a Kind 9", err, api.ErrForm, "write", "kind")
	if len(b) > 0 {
		t.Error("R3: bytes beside a refusal")
	}
	_, err = mail.Bytes(api.Msg{Kind: api.Push, Cards: make([]api.Card, 2*api.MaxCards+1)})
	tells(t, "P6.2: Bytes of too many", err, api.ErrLong, "write", "cards")
	var f *fault.Fault
	if !errors.As(err, &f) || f.Op != "write" || !errors.Is(err, api.ErrLong) {
		t.Error("P6.2: Bytes's fault is wrapped")
	}
}

func TestReadOfBytes(t *testing.T) {
	for i, m := range samples() {
		b, err := mail.Bytes(m)
		if err != nil {
			t.Fatalf("P6.4: Bytes %d: %v", i, err)
		}
		got, err := mail.Read(b)
		if err != nil || !mail.Same(got, m) {
			t.Errorf("P6.4: Read of Bytes %d: %v, %v", i, got, err)
		}
		for n := range b {
			got, err := mail.Read(b[:n])
			tells(t, "P6.3: Read of a piece", err, api.ErrForm, "read", "bytes")
			if !mail.Same(got, api.Msg{}) {
				t.Error("R3: a message beside a refusal")
			}
		}
		_, err = mail.Read(append(b, 0))
		tells(t, "P6.3: Read of a byte more", err, api.ErrForm, "read", "bytes")
	}
}

func TestReadRefuses(t *testing.T) {
	head := slices.Concat([]byte{2}, long(6), []byte{2, 1, 'a', 1, 'b'})
	renewed := slices.Concat(head, []byte{0, 0}, long(0), long(0), []byte{0})
	tells(t, "P6.3: an Answer", second(mail.Read(renewed)), api.OK)
	card := slices.Concat([]byte{1, 'a', 1, 'b', 1, 0}, long(9), long(7), []byte{3}, long(9), []byte{1})
	badGone := slices.Clone(card)
	badGone[len(badGone)-1] = 2
	badStatus := slices.Clone(card)
	badStatus[4] = 3
	for i, c := range []struct {
		b    []byte
		code api.Errno
		path string
	}{
		{nil, api.ErrForm, "bytes"},
		{[]byte{9}, api.ErrForm, "kind"},
		{[]byte{0}, api.ErrForm, "kind"},
		{[]byte{9, 1}, api.ErrForm, "bytes"},
		{slices.Concat(head, []byte{0, 2}, long(0), long(0), []byte{0}), api.ErrForm, "bytes"},
		{slices.Concat(head, []byte{0, 1}, long(0), long(-1), []byte{0}), api.ErrForm, "bytes"},
		{slices.Concat(head, []byte{0, 1}, long(0), long(1<<32), []byte{0}), api.ErrForm, "bytes"},
		{slices.Concat(head, []byte{0, 1}, long(-2), long(1<<32-1), []byte{0}), api.ErrArg, "number"},
		{slices.Concat([]byte{3, 1}, badGone), api.ErrForm, "bytes"},
		{slices.Concat([]byte{3, 1}, badStatus), api.ErrArg, "card"},
		{slices.Concat([]byte{4, 65}, slices.Repeat(card, 65)), api.ErrLong, "cards"},
		{slices.Concat([]byte{5, 255}, slices.Repeat([]byte{1, 'a', 1, 'b'}, 255)), api.ErrLong, "cards"},
		{[]byte{5, 1, 1, 'A', 1, 'b'}, api.ErrArg, "card"},
		{slices.Concat([]byte{1}, long(1), []byte{6, 0, 0}, long(0), []byte{0}, long(0)), api.ErrForm, "op"},
	} {
		m, err := mail.Read(c.b)
		tells(t, "P6.3: Read", err, c.code, "read", c.path)
		if !mail.Same(m, api.Msg{}) {
			t.Errorf("R3: Read %d: a message beside a refusal", i)
		}
	}
}

func second(_ api.Msg, err error) error { return err }

func TestSame(t *testing.T) {
	m := answer()
	if !mail.Same(m, answer()) || !mail.Same(api.Msg{Cards: []api.Card{}}, api.Msg{Keys: []api.Key{}}) {
		t.Error("Same of the same")
	}
	for i, change := range []func(m *api.Msg){
		func(m *api.Msg) { m.Kind++ },
		func(m *api.Msg) { m.Op++ },
		func(m *api.Msg) { m.Status++ },
		func(m *api.Msg) { m.Code++ },
		func(m *api.Msg) { m.Tag++ },
		func(m *api.Msg) { m.N++ },
		func(m *api.Msg) { m.Seq++ },
		func(m *api.Msg) { m.Key.ID = "x" },
		func(m *api.Msg) { m.Full = false },
		func(m *api.Msg) { m.Sum++ },
		func(m *api.Msg) { m.Cards = nil },
		func(m *api.Msg) { m.Cards[0].Lease++ },
		func(m *api.Msg) { m.Keys = []api.Key{ab} },
	} {
		other := answer()
		change(&other)
		if mail.Same(m, other) || mail.Same(other, m) {
			t.Errorf("Same of others, change %d", i)
		}
	}
}

func TestMemory(t *testing.T) {
	m := api.Msg{Kind: api.Push, Cards: slices.Repeat([]api.Card{oneCard()}, 3)}
	b, _ := mail.Bytes(m)
	got, err := mail.Read(b)
	clear(b)
	if err != nil || !mail.Same(got, m) {
		t.Error("R2: Read keeps what it was handed")
	}
}

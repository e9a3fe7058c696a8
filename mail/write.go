package mail

import (
	"frankpledge/api"
	"frankpledge/fault"
	"frankpledge/pack"
)

// Bytes writes m as bytes, if it is right.
func Bytes(m api.Msg) ([]byte, error) {
	if err := Right(m); err != nil {
		return nil, fault.Wrap("write", err)
	}
	b := pack.Byte(nil, m.Kind)
	switch m.Kind {
	case api.Ask:
		b = putHead(b, m)
		b = pack.Int(b, m.N)
		b = pack.Byte(b, m.Status)
		b = pack.Int(b, m.Seq)
	case api.Answer:
		b = putHead(b, m)
		b = pack.Byte(b, m.Code)
		b = putFlag(b, m.Full)
		b = pack.Int(b, m.Seq)
		b = pack.Int(b, int64(m.Sum))
		b = putCards(b, m.Cards)
	case api.Push, api.Digest:
		b = putCards(b, m.Cards)
	case api.Pull:
		b = putKeys(b, m.Keys)
	}
	return b, nil
}

// putHead writes what an Ask and an Answer begin with.
func putHead(b []byte, m api.Msg) []byte {
	b = pack.Int(b, m.Tag)
	b = pack.Byte(b, m.Op)
	return putKey(b, m.Key)
}

func putKey(b []byte, k api.Key) []byte {
	return pack.Text(pack.Text(b, k.App), k.ID)
}

func putFlag(b []byte, flag bool) []byte {
	if flag {
		return pack.Byte(b, 1)
	}
	return pack.Byte(b, 0)
}

func putKeys(b []byte, l []api.Key) []byte {
	b = pack.Byte(b, len(l))
	for _, k := range l {
		b = putKey(b, k)
	}
	return b
}

func putCards(b []byte, l []api.Card) []byte {
	b = pack.Byte(b, len(l))
	for _, c := range l {
		// Each card by itself: package pack copies all that it puts a value behind.
		b = append(b, cardBytes(c)...)
	}
	return b
}

func cardBytes(c api.Card) []byte {
	b := putKey(nil, c.Key)
	b = pack.Byte(b, c.Status)
	b = pack.Byte(b, c.Over)
	b = pack.Int(b, c.Lease)
	b = pack.Int(b, c.Stamp.T)
	b = pack.Byte(b, c.Stamp.Node)
	b = pack.Int(b, c.Stamp.N)
	return putFlag(b, c.Gone)
}

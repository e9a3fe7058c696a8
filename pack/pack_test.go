package pack_test

import (
	"bytes"
	"math"
	"strings"
	"testing"

	"frankpledge/pack"
)

func TestInt(t *testing.T) {
	for _, c := range []struct {
		n    int64
		want []byte
	}{
		{0, []byte{0, 0, 0, 0, 0, 0, 0, 0}},
		{1, []byte{0, 0, 0, 0, 0, 0, 0, 1}},
		{-1, []byte{255, 255, 255, 255, 255, 255, 255, 255}},
		{0x0102030405060708, []byte{1, 2, 3, 4, 5, 6, 7, 8}},
		{math.MinInt64, []byte{128, 0, 0, 0, 0, 0, 0, 0}},
		{math.MaxInt64, []byte{127, 255, 255, 255, 255, 255, 255, 255}},
	} {
		if got := pack.Int([]byte{9}, c.n); !bytes.Equal(got, append([]byte{9}, c.want...)) {
			t.Errorf("P2.1: Int(%d): %v", c.n, got)
		}
		if r := pack.New(c.want); r.Int() != c.n || !r.Done() {
			t.Errorf("P2.1: Reader.Int of %d", c.n)
		}
	}
}

func TestByte(t *testing.T) {
	for _, c := range []struct {
		n    int
		want byte
	}{{0, 0}, {7, 7}, {255, 255}, {256, 0}, {0x1234, 0x34}, {-1, 255}, {-256, 0}} {
		if got := pack.Byte([]byte{1}, c.n); !bytes.Equal(got, []byte{1, c.want}) {
			t.Errorf("P2.1: Byte(%d): %v", c.n, got)
		}
	}
	if r := pack.New([]byte{200, 3}); r.Byte() != 200 || r.Byte() != 3 || !r.Done() {
		t.Error("P2.1: Reader.Byte")
	}
}

func TestText(t *testing.T) {
	if got := pack.Text(nil, "ab"); !bytes.Equal(got, []byte{2, 'a', 'b'}) {
		t.Errorf("P2.1: Text: %v", got)
	}
	if got := pack.Text([]byte{7}, ""); !bytes.Equal(got, []byte{7, 0}) {
		t.Errorf("P2.1: Text of nothing: %v", got)
	}
	full := strings.Repeat("x", 254) + "y"
	for _, s := range []string{full, full + "z", full + strings.Repeat("z", 300)} {
		if got := pack.Text(nil, s); len(got) != 256 || got[0] != 255 || string(got[1:]) != full {
			t.Errorf("P2.1: Text of %d bytes: %d bytes, the first one %d", len(s), len(got), got[0])
		}
	}
	if r := pack.New(pack.Text(nil, full)); r.Text() != full || !r.Done() {
		t.Error("P2.1: Reader.Text of 255 bytes")
	}
}

func TestReaderInOrder(t *testing.T) {
	b := pack.Text(pack.Byte(pack.Int(nil, -5), 9), "name")
	r := pack.New(b)
	if r.Done() || r.Int() != -5 || r.Byte() != 9 || r.Done() || r.Text() != "name" || !r.Done() || r.Bad() {
		t.Error("P2.1: Int, Byte, Text in their order")
	}
	if r.Byte() != 0 || r.Done() || !r.Bad() {
		t.Error("P2.1: Byte behind the end")
	}
}

func TestReaderBad(t *testing.T) {
	if r := pack.New(nil); !r.Done() || r.Bad() {
		t.Error("P2.1: a Reader of nothing")
	}
	seven := []byte{1, 2, 3, 4, 5, 6, 7}
	r := pack.New(seven)
	if r.Int() != 0 || !r.Bad() || r.Done() {
		t.Error("P2.1: Int of seven bytes")
	}
	if r.Byte() != 0 || r.Text() != "" || r.Int() != 0 || !r.Bad() || r.Done() {
		t.Error("P2.1: behind what was not there all is nothing")
	}
	r = pack.New([]byte{3, 'a', 'b'})
	if r.Text() != "" || !r.Bad() || r.Byte() != 0 || r.Done() {
		t.Error("P2.1: a Text that is not wholly there")
	}
	if r := pack.New(nil); r.Text() != "" || !r.Bad() {
		t.Error("P2.1: a Text without its length")
	}
	if r := pack.New([]byte{0}); r.Text() != "" || r.Bad() || !r.Done() {
		t.Error("P2.1: an empty Text is there")
	}
}

func TestMemory(t *testing.T) {
	room := []byte{1, 2, 3, 4, 5, 6, 7, 8, 9, 10, 11, 12}
	had := bytes.Clone(room)
	pack.Int(room[:2], -1)
	pack.Byte(room[:2], 99)
	pack.Text(room[:2], "abc")
	if !bytes.Equal(room, had) {
		t.Errorf("R2: the spare room was written: %v", room)
	}
	b := []byte{1, 2}
	r := pack.New(b)
	b[0], b[1] = 50, 60
	if r.Byte() != 1 || r.Byte() != 2 {
		t.Error("R2: a Reader keeps what it was handed")
	}
}

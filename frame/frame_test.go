package frame_test

import (
	"bytes"
	"testing"

	"frankpledge/api"
	"frankpledge/frame"
)

// made is a frame of b, which must be short enough.
func made(t *testing.T, b []byte) []byte {
	t.Helper()
	f, why := frame.Bytes(b)
	if why != api.OK {
		t.Fatalf("P3.1: Bytes of %d bytes: %d", len(b), int(why))
	}
	return f
}

// broken is a frame whose sum is wrong.
func broken(t *testing.T, b []byte) []byte {
	f := made(t, b)
	f[len(f)-1]++
	return f
}

func TestSum(t *testing.T) {
	if frame.Sum(nil) != 17 || frame.Sum([]byte{}) != 17 {
		t.Error("P3.1: Sum of nothing")
	}
	if got := frame.Sum([]byte{0}); got != 17*31+7 {
		t.Errorf("P3.1: Sum of a nought: %d", got)
	}
	if got := frame.Sum([]byte{5, 200}); got != (17*31+5+7)*31+200+7 {
		t.Errorf("P3.1: Sum of two: %d", got)
	}
	want := uint64(17)
	long := bytes.Repeat([]byte{255, 1}, 50)
	for _, c := range long {
		want = (want*31 + uint64(c) + 7) % (1 << 32)
	}
	if got := frame.Sum(long); uint64(got) != want {
		t.Errorf("P3.1: Sum in 32 bits: %d, not %d", got, want)
	}
}

func TestBytes(t *testing.T) {
	sum := frame.Sum([]byte{0, 0, 0, 2, 'a', 'b'})
	want := []byte{0, 0, 0, 2, 'a', 'b', byte(sum >> 24), byte(sum >> 16), byte(sum >> 8), byte(sum)}
	if got := made(t, []byte("ab")); !bytes.Equal(got, want) {
		t.Errorf("P3.1: Bytes of ab: %v, not %v", got, want)
	}
	long := bytes.Repeat([]byte{3}, api.MaxFrame)
	if got := made(t, long); len(got) != api.MaxFrame+8 || got[2] != 32 || got[3] != 0 {
		t.Error("P3.1: Bytes of as many as may be")
	}
	if got, why := frame.Bytes(append(long, 3)); why != api.ErrLong || len(got) > 0 {
		t.Errorf("P3.1: Bytes of one too many: %d", int(why))
	}
	if got := made(t, nil); len(got) != 8 {
		t.Errorf("P3.1: Bytes of nothing: %v", got)
	}
}

func TestFeedByteByByte(t *testing.T) {
	s := frame.New()
	f := made(t, []byte("hello"))
	for i, c := range f {
		got, why := s.Feed([]byte{c})
		last := i == len(f)-1
		if why != api.OK || !last && (len(got) > 0 || s.Left() != i+1) {
			t.Fatalf("P3.2: byte %d: %v, %d, %d left", i, got, int(why), s.Left())
		}
		if last && (len(got) != 1 || string(got[0]) != "hello" || s.Left() != 0) {
			t.Fatalf("P3.2: the last byte: %q, %d left", got, s.Left())
		}
	}
}

func TestFeedMany(t *testing.T) {
	long := bytes.Repeat([]byte{9}, api.MaxFrame)
	b := append(made(t, []byte("one")), made(t, nil)...)
	b = append(b, made(t, long)...)
	b = append(b, 0, 0, 0)
	s := frame.New()
	got, why := s.Feed(b)
	if why != api.OK || len(got) != 3 || string(got[0]) != "one" || len(got[1]) != 0 || !bytes.Equal(got[2], long) || s.Left() != 3 {
		t.Fatalf("P3.2: three frames and a piece: %d frames, %d, %d left", len(got), int(why), s.Left())
	}
	got, why = s.Feed(made(t, []byte("x"))[3:])
	if why != api.OK || len(got) != 1 || string(got[0]) != "x" || s.Left() != 0 {
		t.Errorf("P3.2: the piece made whole: %q, %d", got, int(why))
	}
	if got, why = s.Feed(nil); why != api.OK || len(got) != 0 {
		t.Error("P3.2: Feed of nothing")
	}
}

func TestFeedRefusals(t *testing.T) {
	for i, c := range []struct {
		bad  []byte
		want api.Errno
	}{
		{broken(t, []byte("bad")), api.ErrSum},
		{[]byte{0, 0, 32, 1}, api.ErrLong},
		{[]byte{255, 255, 255, 255, 0}, api.ErrLong},
	} {
		s := frame.New()
		b := append(made(t, []byte("good")), c.bad...)
		b = append(b, made(t, []byte("behind"))...)
		got, why := s.Feed(b)
		if why != c.want || len(got) != 1 || string(got[0]) != "good" || s.Left() != 0 {
			t.Errorf("P3.2: refusal %d: %q, %d, %d left", i, got, int(why), s.Left())
		}
		got, why = s.Feed(made(t, []byte("later")))
		if why != c.want || len(got) != 0 || s.Left() != 0 {
			t.Errorf("P3.2: behind refusal %d: %q, %d, %d left", i, got, int(why), s.Left())
		}
	}
	s := frame.New()
	if _, why := s.Feed([]byte{0, 0, 32, 0}); why != api.OK || s.Left() != 4 {
		t.Error("P3.2: a length of just MaxFrame waits")
	}
}

func TestFeedMemory(t *testing.T) {
	s := frame.New()
	f := made(t, []byte("abcdef"))
	piece := bytes.Clone(f[:6])
	s.Feed(piece)
	clear(piece)
	got, _ := s.Feed(append(bytes.Clone(f[6:]), f...))
	if len(got) != 2 || string(got[0]) != "abcdef" {
		t.Fatalf("R2: a Stream keeps what it was handed: %q", got)
	}
	_ = append(got[0], bytes.Repeat([]byte{'z'}, 40)...)
	clear(got[0])
	if string(got[1]) != "abcdef" {
		t.Error("R2: two frames of one answer share memory")
	}
}

func TestOne(t *testing.T) {
	ab := made(t, []byte("ab"))
	if got, why := frame.One(ab); why != api.OK || string(got) != "ab" {
		t.Errorf("P3.2: One of a frame: %q, %d", got, int(why))
	}
	if got, why := frame.One(made(t, nil)); why != api.OK || len(got) != 0 {
		t.Errorf("P3.2: One of an empty frame: %q, %d", got, int(why))
	}
	long := bytes.Repeat([]byte{1}, api.MaxFrame)
	if got, why := frame.One(made(t, long)); why != api.OK || !bytes.Equal(got, long) {
		t.Errorf("P3.2: One of a long frame: %d", int(why))
	}
	for i, c := range []struct {
		b    []byte
		want api.Errno
	}{
		{nil, api.ErrForm},
		{[]byte{0, 0, 255}, api.ErrForm},
		{[]byte{0, 0, 32, 1}, api.ErrLong},
		{[]byte{255, 255, 255, 255}, api.ErrLong},
		{ab[:len(ab)-1], api.ErrForm},
		{append(bytes.Clone(ab), 0), api.ErrForm},
		{append(broken(t, []byte("ab")), 0), api.ErrForm},
		{[]byte{0, 0, 0, 0}, api.ErrForm},
		{broken(t, []byte("ab")), api.ErrSum},
		{append(bytes.Clone(ab), ab...), api.ErrForm},
	} {
		if got, why := frame.One(c.b); why != c.want || len(got) > 0 {
			t.Errorf("P3.2: One %d: %q, %d, not %d", i, got, int(why), int(c.want))
		}
	}
}

func TestOneMemory(t *testing.T) {
	f := made(t, []byte("ab"))
	got, _ := frame.One(f)
	clear(f)
	if string(got) != "ab" {
		t.Error("R2: One shares memory with what it was handed")
	}
}

package pack_test

import (
	"bytes"
	"encoding/binary"
	"math"
	"sync"
	"testing"

	"warrener/pack"
)

// pattern is n bytes, another row for each n.
func pattern(n int) []byte {
	b := make([]byte, n)
	x := uint32(n) + 1
	for i := range b {
		x = x*1664525 + 1013904223
		b[i] = byte(x >> 24)
	}
	return b
}

// values are numbers of up to 64 bits: the least, the greatest of each width, one
// more, each bit alone, and some of which no byte is like another.
func values() []uint64 {
	l := []uint64{0, 1, math.MaxUint8, math.MaxUint16, math.MaxUint32, math.MaxUint64, 0x0102030405060708, 0xf1e2d3c4b5a69788}
	for bit := range 64 {
		l = append(l, 1<<bit, 1<<bit-1, ^(uint64(1) << bit))
	}
	return l
}

// heads are what stands ahead: of none and of nil bytes, too.
func heads() [][]byte {
	return [][]byte{nil, {}, {0}, {9}, []byte("head"), pattern(255), pattern(1000)}
}

func TestNumbersKnown(t *testing.T) {
	for i, c := range []struct{ got, want []byte }{
		{pack.U8(nil, 0), []byte{0}},
		{pack.U8(nil, 7), []byte{7}},
		{pack.U8(nil, 255), []byte{255}},
		{pack.U16(nil, 0), []byte{0, 0}},
		{pack.U16(nil, 258), []byte{1, 2}},
		{pack.U16(nil, 65535), []byte{255, 255}},
		{pack.U32(nil, 0), []byte{0, 0, 0, 0}},
		{pack.U32(nil, 0x01020304), []byte{1, 2, 3, 4}},
		{pack.U32(nil, math.MaxUint32), []byte{255, 255, 255, 255}},
		{pack.U64(nil, 0), make([]byte, 8)},
		{pack.U64(nil, 0x0102030405060708), []byte{1, 2, 3, 4, 5, 6, 7, 8}},
		{pack.U64(nil, math.MaxUint64), bytes.Repeat([]byte{255}, 8)},
		{pack.U16([]byte("ab"), 0x6364), []byte("abcd")},
		{pack.U8([]byte{}, 1), []byte{1}},
	} {
		if !bytes.Equal(c.got, c.want) {
			t.Errorf("number %d: % x, not % x", i, c.got, c.want)
		}
	}
}

func TestNumbersBehind(t *testing.T) {
	for _, b := range heads() {
		for _, v := range values() {
			for i, c := range []struct{ got, want []byte }{
				{pack.U8(b, uint8(v)), []byte{uint8(v)}},
				{pack.U16(b, uint16(v)), binary.BigEndian.AppendUint16(nil, uint16(v))},
				{pack.U32(b, uint32(v)), binary.BigEndian.AppendUint32(nil, uint32(v))},
				{pack.U64(b, v), binary.BigEndian.AppendUint64(nil, v)},
			} {
				if len(c.got) != len(b)+len(c.want) || !bytes.HasPrefix(c.got, b) || !bytes.HasSuffix(c.got, c.want) {
					t.Errorf("width number %d of %x behind %d bytes: % x", i, v, len(b), c.got)
				}
			}
		}
	}
}

func TestBytesBehind(t *testing.T) {
	for _, b := range heads() {
		for _, n := range []int{0, 1, 2, 255, 256, 257, 300, 65534, 65535} {
			p := pattern(n)
			got, ok := pack.Bytes(b, p)
			want := bytes.Join([][]byte{b, {byte(n / 256), byte(n % 256)}, p}, nil)
			if !ok || !bytes.Equal(got, want) {
				t.Errorf("%d bytes behind %d: %v, %d bytes", n, len(b), ok, len(got))
			}
		}
		if got, ok := pack.Bytes(b, nil); !ok || !bytes.Equal(got, append(bytes.Clone(b), 0, 0)) {
			t.Errorf("nil behind %d bytes: %v, % x", len(b), ok, got)
		}
	}
}

func TestBytesTooMany(t *testing.T) {
	for _, b := range heads() {
		for _, n := range []int{65536, 65537, 65536 + 255, 2 * 65536, 1 << 20} {
			if got, ok := pack.Bytes(b, make([]byte, n)); ok || !bytes.Equal(got, b) {
				t.Errorf("%d bytes behind %d: %v, %d bytes", n, len(b), ok, len(got))
			}
		}
	}
}

// writes are all ways to write behind b: with p as bytes, too.
func writes(b, p []byte) [][]byte {
	some, _ := pack.Bytes(b, p)
	none, _ := pack.Bytes(b, nil)
	all := [][]byte{pack.U8(b, 1), pack.U16(b, 0x0203), pack.U32(b, 0x04050607), pack.U64(b, 0x08090a0b0c0d0e0f), some, none}
	tooMany, _ := pack.Bytes(b, make([]byte, 65536))
	return append(all, tooMany)
}

// The spare room of b holds what another writes; p may lie in it.
func TestWritesLeaveArguments(t *testing.T) {
	for _, n := range []int{0, 1, 5, 64, 300} {
		room := pattern(n + 60)
		before := bytes.Clone(room)
		got := writes(room[:n], room[n+1:n+9])
		if !bytes.Equal(room, before) {
			t.Errorf("%d bytes were changed, or the room behind", n)
		}
		if want := append(append(bytes.Clone(before[:n]), 0, 8), before[n+1:n+9]...); !bytes.Equal(got[4], want) {
			t.Errorf("Bytes out of the room behind %d bytes: % x", n, got[4])
		}
	}
}

func TestWritesAreNewMemory(t *testing.T) {
	for _, n := range []int{0, 1, 5, 64, 300} {
		room := pattern(n + 60)
		before := bytes.Clone(room)
		want := writes(before[:n], before[n:n+8])
		got := writes(room[:n], room[n:n+8])
		clear(room)
		for i := range got {
			if !bytes.Equal(got[i], want[i]) {
				t.Errorf("way %d behind %d bytes hangs on what comes later", i, n)
			}
		}
		copy(room, before)
		for i, l := range got {
			clear(l[:cap(l)])
			for k := i + 1; k < len(got); k++ {
				if !bytes.Equal(got[k], want[k]) {
					t.Errorf("ways %d and %d behind %d bytes share memory", i, k, n)
				}
			}
		}
		if !bytes.Equal(room, before) {
			t.Errorf("an answer shares memory with the %d bytes ahead", n)
		}
	}
}

// Two rows that begin alike do not write over one another.
func TestWritesForked(t *testing.T) {
	first := pack.U16(nil, 1)
	a, b := pack.U8(first, 2), pack.U8(first, 3)
	c, _ := pack.Bytes(first, []byte("x"))
	d, _ := pack.Bytes(first, []byte("y"))
	if string(a) != "\x00\x01\x02" || string(b) != "\x00\x01\x03" || string(c) != "\x00\x01\x00\x01x" || string(d) != "\x00\x01\x00\x01y" {
		t.Errorf("% x, % x, % x, % x", a, b, c, d)
	}
}

func TestSideBySide(t *testing.T) {
	var all sync.WaitGroup
	wrong := make([]bool, 8)
	for i := range wrong {
		all.Go(func() {
			for k := range uint64(100) {
				v := k<<56 | uint64(i)
				if r := pack.New(pack.U64(nil, v)); r.U64() != v || r.Left() != 0 {
					wrong[i] = true
				}
			}
		})
	}
	all.Wait()
	for i, w := range wrong {
		if w {
			t.Errorf("worker %d", i)
		}
	}
}

package crc_test

import (
	"bytes"
	"hash/crc32"
	"sync"
	"testing"

	"warrener/crc"
)

// pattern is n bytes, another row for each n.
func pattern(n int) []byte {
	b := make([]byte, n)
	x := uint32(n) + 1
	for i := range b {
		x = x*1664525 + 1013904223
		b[i] = byte(x >> 24)
	}
	return b
}

// slow is the chapter's words, bit by bit: c, turned, is divided along with b.
func slow(c uint32, b []byte) uint32 {
	c = ^c
	for _, v := range b {
		for bit := range 8 {
			out := c&1 ^ uint32(v>>bit)&1
			c >>= 1
			if out == 1 {
				c ^= 0xEDB88320
			}
		}
	}
	return ^c
}

func TestOfKnown(t *testing.T) {
	for _, c := range []struct {
		of   string
		want uint32
	}{
		{"", 0},
		{"a", 0xE8B7BE43},
		{"abc", 0x352441C2},
		{"123456789", 0xCBF43926},
		{"The quick brown fox jumps over the lazy dog", 0x414FA339},
		{"\x00", 0xD202EF8D},
		{"\xff", 0xFF000000},
		{"\x00\x00\x00\x00", 0x2144DF1C},
		{"\xff\xff\xff\xff", 0xFFFFFFFF},
		{string(make([]byte, 32)), 0x190A55AD},
	} {
		if got := crc.Of([]byte(c.of)); got != c.want {
			t.Errorf("Of %q: %08x, not %08x", c.of, got, c.want)
		}
		if got := crc.On(0, []byte(c.of)); got != c.want {
			t.Errorf("On 0 of %q: %08x, not %08x", c.of, got, c.want)
		}
	}
}

func TestOfNothing(t *testing.T) {
	for i, b := range [][][]byte{nil, {}, {nil}, {{}}, {nil, {}, nil}} {
		if got := crc.Of(b...); got != 0 {
			t.Errorf("Of nothing, way %d: %08x", i, got)
		}
	}
}

func TestOfLengths(t *testing.T) {
	for n := range 600 {
		b := pattern(n)
		if got := crc.Of(b); got != crc32.ChecksumIEEE(b) || got != slow(0, b) {
			t.Errorf("Of %d bytes: %08x", n, got)
		}
		for _, v := range []byte{0, 1, 128, 255} {
			b = bytes.Repeat([]byte{v}, n)
			if got := crc.Of(b); got != crc32.ChecksumIEEE(b) {
				t.Errorf("Of %d bytes %d: %08x", n, v, got)
			}
		}
	}
	if b := pattern(1 << 20); crc.Of(b) != crc32.ChecksumIEEE(b) {
		t.Error("Of 2^20 bytes")
	}
}

func TestOfParts(t *testing.T) {
	for n := range 130 {
		b := pattern(n)
		want := crc32.ChecksumIEEE(b)
		for at := range n + 1 {
			half := at / 2
			if crc.Of(b[:at], b[at:]) != want {
				t.Errorf("Of %d bytes, parted at %d", n, at)
			}
			if crc.Of(nil, b[:half], nil, b[half:at], []byte{}, b[at:], nil) != want {
				t.Errorf("Of %d bytes, parted at %d and %d", n, half, at)
			}
			if crc.On(crc.Of(b[:half], b[half:at]), b[at:]) != want {
				t.Errorf("On of %d bytes, parted at %d and %d", n, half, at)
			}
		}
	}
}

func TestOfManyParts(t *testing.T) {
	b := pattern(1000)
	want := crc32.ChecksumIEEE(b)
	for _, size := range []int{1, 2, 3, 4, 7, 31, 255, 256, 257, 999} {
		var parts [][]byte
		on := uint32(0)
		for at := 0; at < len(b); at += size {
			part := b[at:min(at+size, len(b))]
			parts = append(parts, part)
			on = crc.On(on, part)
		}
		if crc.Of(parts...) != want {
			t.Errorf("Of parts of %d bytes", size)
		}
		if on != want {
			t.Errorf("On, parts of %d bytes", size)
		}
	}
}

func TestOfHangsOnOrder(t *testing.T) {
	if crc.Of([]byte("ab"), []byte("c")) == crc.Of([]byte("c"), []byte("ab")) {
		t.Error("the order of the parts does not tell")
	}
}

// starts are numbers to go on from: each number is the rest of some bytes.
func starts() []uint32 {
	l := []uint32{0, 1, 2, 15, 16, 77, 255, 256, 0xEDB88320, 0x7FFFFFFF, 0xFFFFFFFE, 0xFFFFFFFF}
	for bit := range 32 {
		l = append(l, 1<<bit, ^(uint32(1) << bit))
	}
	return l
}

func TestOnNothing(t *testing.T) {
	for _, c := range starts() {
		if got := crc.On(c, nil); got != c {
			t.Errorf("On %08x of nil: %08x", c, got)
		}
		if got := crc.On(c, []byte{}); got != c {
			t.Errorf("On %08x of no bytes: %08x", c, got)
		}
	}
}

func TestOnBytes(t *testing.T) {
	for _, c := range starts() {
		for v := range 256 {
			b := []byte{byte(v)}
			if got := crc.On(c, b); got != slow(c, b) || got != crc32.Update(c, crc32.IEEETable, b) {
				t.Errorf("On %08x of a byte %d: %08x", c, v, got)
			}
		}
		for _, n := range []int{2, 3, 4, 5, 9, 64, 300} {
			b := pattern(n)
			if got := crc.On(c, b); got != slow(c, b) || got != crc32.Update(c, crc32.IEEETable, b) {
				t.Errorf("On %08x of %d bytes: %08x", c, n, got)
			}
		}
	}
}

// ahead is the four bytes whose rest is c: the division, undone.
func ahead(c uint32) []byte {
	x := ^c
	for range 32 {
		if x>>31 == 1 {
			x = (x^0xEDB88320)<<1 | 1
		} else {
			x <<= 1
		}
	}
	x = ^x
	return []byte{byte(x), byte(x >> 8), byte(x >> 16), byte(x >> 24)}
}

func TestOnIsOfThatAndMore(t *testing.T) {
	b := pattern(50)
	for _, c := range starts() {
		first := ahead(c)
		if got := crc.Of(first); got != c {
			t.Fatalf("Of % x: %08x, not %08x", first, got, c)
		}
		if crc.On(c, b) != crc.Of(first, b) {
			t.Errorf("On %08x is not Of % x and more", c, first)
		}
	}
}

func TestLeavesArguments(t *testing.T) {
	for _, n := range []int{0, 1, 3, 4, 64, 300} {
		room := pattern(n + 40)
		before := bytes.Clone(room)
		behind := []byte("behind")
		list := [][]byte{room[:n], room[n : n+3], behind}
		got := crc.Of(list[:2]...)
		crc.On(got, room[:n])
		if !bytes.Equal(room, before) {
			t.Errorf("%d bytes were changed, or the room behind", n)
		}
		if len(list[0]) != n || len(list[1]) != 3 || string(list[2]) != "behind" {
			t.Errorf("%d bytes: the list of parts was changed, or the room behind", n)
		}
		if got != crc32.ChecksumIEEE(before[:n+3]) {
			t.Errorf("%d bytes: hangs on the room behind", n)
		}
	}
}

func TestKeepsNothing(t *testing.T) {
	want := crc32.ChecksumIEEE([]byte("abc"))
	crc.On(77, pattern(77))
	if crc.Of([]byte("abc")) != want {
		t.Error("the same bytes, later, have another rest")
	}
	var all sync.WaitGroup
	wrong := make([]bool, 8)
	for i := range wrong {
		all.Go(func() {
			for range 100 {
				if crc.Of([]byte("a"), []byte("bc")) != want || crc.On(crc.Of([]byte("ab")), []byte("c")) != want {
					wrong[i] = true
				}
			}
		})
	}
	all.Wait()
	for i, w := range wrong {
		if w {
			t.Errorf("side by side, worker %d", i)
		}
	}
}

// All bytes of these lengths, each with a rest of its own.
func TestShortAllApart(t *testing.T) {
	had := map[uint32]int{}
	for v := range 256 {
		c := crc.Of([]byte{byte(v)})
		if k, there := had[c]; there {
			t.Errorf("the bytes %d and %d: alike", v, k)
		}
		had[c] = v
	}
	clear(had)
	for v := range 1 << 16 {
		c := crc.Of([]byte{byte(v), byte(v >> 8)})
		if k, there := had[c]; there {
			t.Fatalf("the two bytes %04x and %04x: alike", v, k)
		}
		had[c] = v
	}
}

// turn is what a turn of the bytes from at on by d does to the rest of b.
func turn(b []byte, at int, d []byte) uint32 {
	other := bytes.Clone(b)
	for i := range d {
		other[at+i] ^= d[i]
	}
	return crc.Of(b) ^ crc.Of(other)
}

// rank is how many of the numbers no exclusive or of others makes.
func rank(l []uint32) int {
	n := 0
	for bit := range 32 {
		for i := n; i < len(l); i++ {
			if l[i]>>bit&1 == 0 {
				continue
			}
			l[n], l[i] = l[i], l[n]
			for k := n + 1; k < len(l); k++ {
				if l[k]>>bit&1 == 1 {
					l[k] ^= l[n]
				}
			}
			n++
			break
		}
	}
	return n
}

// What two turns do together is what each does: so, if none of the single bits
// within four bytes is made by others, no turn of them at all leaves the rest.
func TestNoTurnWithinFourLeavesIt(t *testing.T) {
	for _, n := range []int{1, 2, 3, 4, 5, 8, 33, 300, 512} {
		b := pattern(n)
		wide := min(n, 4)
		for at := range n - wide + 1 {
			var bits []uint32
			for bit := range 8 * wide {
				d := make([]byte, wide)
				d[bit/8] = 1 << (bit % 8)
				bits = append(bits, turn(b, at, d))
			}
			if got := rank(bits); got != 8*wide {
				t.Errorf("%d bytes, %d from %d on: only %d of %d bits tell", n, wide, at, got, 8*wide)
			}
		}
	}
}

func TestTurnsAddUp(t *testing.T) {
	b := pattern(40)
	for i := range 500 {
		at := i % 37
		d, e := pattern(i + 4)[i:], pattern(i + 9)[i+5:]
		both := []byte{d[0] ^ e[0], d[1] ^ e[1], d[2] ^ e[2], d[3] ^ e[3]}
		if turn(b, at, d)^turn(b, at, e) != turn(b, at, both) {
			t.Errorf("turned by % x, % x at %d", d, e, at)
		}
	}
}

func TestFourTurned(t *testing.T) {
	for _, n := range []int{4, 5, 7, 12, 64, 512} {
		b := pattern(n)
		for at := 0; at+4 <= n; at++ {
			for x := uint32(1); x < 1<<31; x = x*5 + 3 {
				d := []byte{byte(x), byte(x >> 8), byte(x >> 16), byte(x >> 24)}
				if turn(b, at, d) == 0 {
					t.Errorf("%d bytes, from %d on turned by % x: alike", n, at, d)
				}
			}
		}
	}
}

package frame_test

import (
	"bytes"
	"encoding/binary"
	"fmt"
	"hash/crc32"
	"slices"
	"strings"
	"sync"
	"testing"

	"warrener/api"
	"warrener/crc"
	"warrener/frame"
	"warrener/pack"
)

// text is n bytes that tell each place from those about it.
func text(first byte, n int) string {
	b := make([]byte, n)
	for i := range b {
		b[i] = first + byte(i*7+i/32*3)
	}
	return string(b)
}

// made is a frame, by another CRC than the program's own.
func made(s string) []byte {
	b := binary.BigEndian.AppendUint16(nil, uint16(len(s)))
	b = append(b, s...)
	return binary.BigEndian.AppendUint32(b, crc32.ChecksumIEEE(b))
}

// spoilt is a frame with one bit turned; bits are counted from the first byte on.
func spoilt(s string, bit int) []byte {
	b := made(s)
	b[bit/8] ^= 1 << (bit % 8)
	return b
}

// row is all parts, one behind the other.
func row(parts ...[]byte) []byte { return bytes.Join(parts, nil) }

// good is a piece as it should be; tooLong and wrongSum are those of errors.
func good(s string) frame.Piece { return frame.Piece{B: []byte(s)} }

var (
	tooLong  = frame.Piece{Err: api.EFORM}
	wrongSum = frame.Piece{Err: api.ESUM}
)

// show writes pieces, no more than a failed test's line has room for.
func show(l []frame.Piece) string {
	var out []string
	for _, p := range l {
		out = append(out, fmt.Sprintf("%d:%d:%.20q", p.Err, len(p.B), p.B))
	}
	return strings.Join(out[:min(len(out), 12)], " ")
}

func alike(l, m []frame.Piece) bool {
	return slices.EqualFunc(l, m, func(p, q frame.Piece) bool { return p.Err == q.Err && bytes.Equal(p.B, q.B) })
}

// feed feeds b, and holds what is told then against what should be; what waits and
// whether it is dead is asked twice, since asking changes nothing.
func feed(t *testing.T, c *frame.Cutter, b []byte, waits int, dead bool, want ...frame.Piece) {
	t.Helper()
	if l := c.Feed(b); !alike(l, want) {
		t.Fatalf("Feed of %d bytes, %.30x: %d pieces, %s, not %d, %s", len(b), b, len(l), show(l), len(want), show(want))
	}
	for range 2 {
		if c.Waits() != waits || c.Dead() != dead {
			t.Fatalf("Feed of %d bytes, %.30x: Waits %d, Dead %v, not %d, %v", len(b), b, c.Waits(), c.Dead(), waits, dead)
		}
	}
}

// cut is what a whole stream should tell: its pieces, how many bytes wait, whether it is dead.
func cut(b []byte) (l []frame.Piece, waits int, dead bool) {
	for len(b) >= 2 {
		n := int(b[0])*256 + int(b[1])
		if n > 512 {
			return append(l, tooLong), 0, true
		}
		if len(b) < n+6 {
			break
		}
		p := wrongSum
		if binary.BigEndian.Uint32(b[n+2:]) == crc32.ChecksumIEEE(b[:n+2]) {
			p = good(string(b[2 : n+2]))
		}
		l, b = append(l, p), b[n+6:]
	}
	return l, len(b), false
}

// parted feeds a stream in parts that end at these places, and holds what is told behind
// each part against what the stream till there should tell.
func parted(t *testing.T, stream []byte, ends ...int) {
	t.Helper()
	c, from, told := frame.New(), 0, 0
	for _, to := range append(ends, len(stream)) {
		l, waits, dead := cut(stream[:to])
		feed(t, c, stream[from:to], waits, dead, l[told:]...)
		from, told = to, len(l)
	}
}

func TestExample(t *testing.T) {
	b, e := frame.Put([]byte("a"))
	if len(b) != 7 || e != api.OK {
		t.Errorf("Put(a): %x, %d", b, e)
	}
}

// Written out: the highest bytes first, and the CRC is that of the length and the bytes.
func TestPut(t *testing.T) {
	for _, c := range []struct {
		p    string
		want []byte
	}{
		{"", []byte{0, 0, 0x41, 0xd9, 0x12, 0xff}},
		{"a", []byte{0, 1, 'a', 0xdc, 0xef, 0xb9, 0x9d}},
		{"\x00", []byte{0, 1, 0, 0xe6, 0x5a, 0xe8, 0x53}},
		{"123456789", []byte("\x00\x09123456789\xba\x6f\xb7\xae")},
	} {
		if b, e := frame.Put([]byte(c.p)); !bytes.Equal(b, c.want) || e != api.OK {
			t.Errorf("Put(%q): %x, %d, not %x", c.p, b, e, c.want)
		}
	}
	if b, e := frame.Put(nil); !bytes.Equal(b, []byte{0, 0, 0x41, 0xd9, 0x12, 0xff}) || e != api.OK {
		t.Errorf("Put(nil): %x, %d", b, e)
	}
	for n, ahead := range map[int]string{255: "\x00\xff", 256: "\x01\x00", 258: "\x01\x02", 511: "\x01\xff", 512: "\x02\x00"} {
		if b, e := frame.Put(make([]byte, n)); len(b) != n+6 || e != api.OK || string(b[:2]) != ahead {
			t.Errorf("Put of %d bytes: %d bytes, %d", n, len(b), e)
		}
	}
}

func TestPutOfAllLengths(t *testing.T) {
	for n := range 513 {
		s := text(byte(n), n)
		b, e := frame.Put([]byte(s))
		if !bytes.Equal(b, made(s)) || e != api.OK {
			t.Fatalf("Put of %d bytes: %x, %d, not %x", n, b, e, made(s))
		}
		ahead, _ := pack.Bytes(nil, []byte(s))
		if !bytes.Equal(b, pack.U32(ahead, crc.Of(ahead))) {
			t.Fatalf("Put of %d bytes is not as pack and crc tell", n)
		}
	}
}

func TestPutRefused(t *testing.T) {
	for _, n := range []int{513, 514, 518, 519, 767, 768, 1024, 65535, 65536, 65537, 65536 + 512, 1 << 20, 1 << 25} {
		if b, e := frame.Put(make([]byte, n)); len(b) != 0 || e != api.EOVER {
			t.Errorf("Put of %d bytes: %d bytes, %d", n, len(b), e)
		}
	}
}

func TestFeedOfNothing(t *testing.T) {
	for _, b := range [][]byte{nil, {}, make([]byte, 0, 40)} {
		c := frame.New()
		feed(t, c, b, 0, false)
		feed(t, c, made("abc")[:5], 5, false)
		feed(t, c, b, 5, false)
		feed(t, c, made("abc")[5:], 0, false, good("abc"))
		feed(t, c, b, 0, false)
		feed(t, c, []byte{255}, 1, false)
		feed(t, c, b, 1, false)
		feed(t, c, []byte{255}, 0, true, tooLong)
		feed(t, c, b, 0, true)
	}
}

// One byte, the two of a length, and the others one by one.
func TestFeedByteByByte(t *testing.T) {
	c := frame.New()
	b := made("hello")
	for range 3 {
		for k := range 10 {
			feed(t, c, b[k:k+1], k+1, false)
		}
		feed(t, c, b[10:], 0, false, good("hello"))
	}
	feed(t, c, b[:2], 2, false)
	feed(t, c, b[2:], 0, false, good("hello"))
	for k := range 5 {
		feed(t, c, made("")[k:k+1], k+1, false)
	}
	feed(t, c, made("")[5:], 0, false, good(""))
}

// Of each length: just one frame; one without its last byte, and then that byte; a
// frame behind.
func TestFeedOfAllLengths(t *testing.T) {
	long := frame.New()
	for n := range 513 {
		s := text(byte(n), n)
		b := made(s)
		c := frame.New()
		feed(t, c, b, 0, false, good(s))
		feed(t, c, b[:n+5], n+5, false)
		feed(t, c, b[n+5:], 0, false, good(s))
		feed(t, c, b[:1], 1, false)
		feed(t, c, b[1:2], 2, false)
		feed(t, c, row(b[2:], b), 0, false, good(s), good(s))
		feed(t, long, row(b, b[:3]), 3, false, good(s))
		feed(t, long, b[3:], 0, false, good(s))
	}
}

func TestFeedOfSeveral(t *testing.T) {
	c := frame.New()
	most := text('m', 512)
	feed(t, c, row(made("a"), made(""), made("bc")), 0, false, good("a"), good(""), good("bc"))
	feed(t, c, row(made(""), made(""), made("")), 0, false, good(""), good(""), good(""))
	feed(t, c, row(made(most), made("x"), made(most), made(most)[:517]), 517, false, good(most), good("x"), good(most))
	feed(t, c, row(made(most)[517:], made("y")[:1]), 1, false, good(most))
	feed(t, c, made("y")[1:2], 2, false)
	feed(t, c, made("y")[2:6], 6, false)
	feed(t, c, row(made("y")[6:], made("")[:5]), 5, false, good("y"))
	feed(t, c, row(made("")[5:], made("z"), []byte{0}), 1, false, good(""), good("z"))
}

// What was put is cut off again, and so are frames that lie in a frame's bytes: not twice.
func TestFeedOfPut(t *testing.T) {
	c := frame.New()
	s := "inner"
	for range 8 {
		b, e := frame.Put([]byte(s))
		if e != api.OK {
			t.Fatalf("Put of %d bytes: %d", len(s), e)
		}
		feed(t, c, b, 0, false, good(s))
		s = string(row(b, b[:3]))
	}
}

// Any one bit of the bytes or of the CRC; what follows is cut on.
func TestFeedOfSpoilt(t *testing.T) {
	for _, s := range []string{"", "a", "hello", "\x00\x00\x00\x00", text('s', 300), text('t', 512)} {
		for bit := 16; bit < (len(s)+6)*8; bit++ {
			b := spoilt(s, bit)
			c := frame.New()
			feed(t, c, b, 0, false, wrongSum)
			feed(t, c, made(s), 0, false, good(s))
			feed(t, c, row(made("x"), b, made("y"), b, b, made(s)[:5]), 5, false, good("x"), wrongSum, good("y"), wrongSum, wrongSum)
			feed(t, c, row(made(s)[5:], b[:len(s)+5]), len(s)+5, false, good(s))
			feed(t, c, b[len(s)+5:], 0, false, wrongSum)
			feed(t, c, made(""), 0, false, good(""))
		}
	}
}

// A CRC of other bytes than just those of the frame's length and its own, or not begun
// at the highest byte.
func TestFeedOfAnotherSum(t *testing.T) {
	s := text('s', 20)
	b := made(s)
	n := len(b) - 4
	for _, sum := range []uint32{0, ^uint32(0), crc.Of([]byte(s)), crc.Of(b), crc.Of(b[1:n]), crc.Of(b[:n-1]), ^crc.Of(b[:n]), crc.Of(b[:n]) + 1} {
		c := frame.New()
		feed(t, c, row(binary.BigEndian.AppendUint32(b[:n:n], sum), b), 0, false, wrongSum, good(s))
		feed(t, c, row(binary.LittleEndian.AppendUint32(b[:n:n], crc.Of(b[:n])), b), 0, false, wrongSum, good(s))
	}
	// Sound bytes under another length's number.
	feed(t, frame.New(), row([]byte{0, 19}, b[2:]), 1, false, wrongSum)
	feed(t, frame.New(), row([]byte{0, 21}, b[2:], b), 0, true, wrongSum, tooLong) // the second one is cut from its second byte on
}

// Each length that is too long is told by its two bytes alone, at once or one by one.
func TestFeedOfTooLong(t *testing.T) {
	for n := 513; n <= 65535; n++ {
		b := []byte{byte(n >> 8), byte(n)}
		c := frame.New()
		feed(t, c, b, 0, true, tooLong)
		feed(t, c, made("a"), 0, true)
		c = frame.New()
		feed(t, c, b[:1], 1, false)
		feed(t, c, b[1:], 0, true, tooLong)
		feed(t, c, b, 0, true)
	}
	for n := range 513 {
		feed(t, frame.New(), []byte{byte(n >> 8), byte(n)}, 2, false)
	}
}

// A frame that is sound in all but its length; from then on nothing is told.
func TestFeedOfDead(t *testing.T) {
	for _, n := range []int{513, 514, 600, 768, 1024, 40000, 65535} {
		b := made(text('b', n))
		for _, later := range [][]byte{nil, {0}, {0, 0}, made(""), made("a"), row(made("a"), made("b"), spoilt("c", 20)), b, {2, 1}, {255, 255}, make([]byte, 5000)} {
			c := frame.New()
			feed(t, c, row(made("one"), made("two"), spoilt("three", 30), made(""), b, later), 0, true, good("one"), good("two"), wrongSum, good(""), tooLong)
			feed(t, c, later, 0, true)
			feed(t, c, later, 0, true)
			c = frame.New()
			feed(t, c, b[:1], 1, false)
			feed(t, c, row(b[1:], later), 0, true, tooLong)
			feed(t, c, later, 0, true)
			feed(t, c, made("a"), 0, true)
			for k := range min(len(later), 30) {
				feed(t, c, later[k:k+1], 0, true)
			}
		}
	}
}

// The length's own bits: more waits, a part of what comes is taken for the frame, or it
// is dead, as the stream's bytes tell.
func TestFeedOfAnotherLength(t *testing.T) {
	for _, s := range []string{"", "a", "hello", text('s', 255), text('t', 300), text('u', 512)} {
		for bit := range 16 {
			stream := row(spoilt(s, bit), made("behind"), made(s))
			parted(t, stream)
			for to := range len(stream) {
				parted(t, stream, to)
			}
		}
	}
}

// streams are short ones, of which each ends in its own way.
func streams() [][]byte {
	return [][]byte{
		row(made("a"), made("")),
		row(made("ab"), made("c"))[:14],
		row(spoilt("a", 20), made("b")),
		row(made(""), spoilt("", 47), made("")[:3]),
		row(made("a"), []byte{2, 1}, made("b")[:6]),
		row([]byte{255, 255}, made("a"), made("")),
		row(made("abcd"), []byte{2, 0, 7, 7, 7}),
		row(made(""), made(""), []byte{3, 0, 0}),
	}
}

// Every way to part a short stream.
func TestPartedInEveryWay(t *testing.T) {
	for _, stream := range streams() {
		for way := range 1 << (len(stream) - 1) {
			var ends []int
			for k := 1; k < len(stream); k++ {
				if way>>(k-1)&1 == 1 {
					ends = append(ends, k)
				}
			}
			parted(t, stream, ends...)
		}
	}
}

// Feeds of nothing between are parts too.
func TestPartedWithNothingBetween(t *testing.T) {
	for _, stream := range streams() {
		for k := range len(stream) + 1 {
			parted(t, stream, 0, 0, k, k, k)
		}
	}
}

// anyStream is a long one of any frames, some of them spoilt; dead tells whether one is
// too long.
func anyStream(next func(n int) int, dead bool) []byte {
	var all []byte
	for range 40 + next(40) {
		s := text(byte(next(256)), []int{0, 1, next(20), next(513), 512}[next(5)])
		switch next(4) {
		case 0:
			all = append(all, spoilt(s, 16+next((len(s)+4)*8))...)
		default:
			all = append(all, made(s)...)
		}
	}
	if dead {
		all = append(all, made(text('d', 513+next(800)))...)
	}
	return append(all, made(text('e', 100))[:next(106)]...)
}

// Long streams, parted in many ways.
func TestPartedLong(t *testing.T) {
	for seed := range uint32(30) {
		x := seed*7919 + 1
		next := func(n int) int {
			x = x*1664525 + 1013904223
			return int(x>>8) % n
		}
		stream := anyStream(next, seed%3 == 0)
		for _, most := range []int{1, 2, 3, 5, 6, 7, 40, 517, 518, 519, 2000, len(stream)} {
			var ends []int
			for to := 1 + next(most); to < len(stream); to += 1 + next(most) {
				ends = append(ends, to)
			}
			partedLong(t, stream, ends)
		}
	}
}

// partedLong is as parted, but what the stream should tell is worked out once.
func partedLong(t *testing.T, stream []byte, ends []int) {
	t.Helper()
	c, from := frame.New(), 0
	var l []frame.Piece
	for _, to := range append(ends, len(stream)) {
		l = append(l, c.Feed(stream[from:to])...)
		from = to
	}
	want, waits, dead := cut(stream)
	if !alike(l, want) || c.Waits() != waits || c.Dead() != dead {
		t.Fatalf("%d bytes in %d parts: %d pieces, Waits %d, Dead %v, not %d, %d, %v", len(stream), len(ends)+1, len(l), c.Waits(), c.Dead(), len(want), waits, dead)
	}
}

// Any bytes at all, of which most lengths are short or just about the longest.
func TestFeedOfAnyBytes(t *testing.T) {
	x := uint32(1)
	for range 3000 {
		var stream []byte
		for len(stream) < 60 {
			x = x*1664525 + 1013904223
			stream = append(stream, []byte{0, 0, 0, 1, 2, 3, byte(x >> 24), byte(x >> 16)}[x>>8%8])
		}
		k, n := int(x>>9)%30, 30+int(x>>17)%30
		parted(t, stream, k, n)
	}
}

// overwrite writes all over an answer, spare room included.
func overwrite(l []byte) {
	l = l[:cap(l)]
	for k := range l {
		l[k] = 99
	}
}

func TestPutIsNewMemory(t *testing.T) {
	for n := range 513 {
		s := text('p', n)
		room := []byte(s + "behind")
		first, _ := frame.Put(room[:n])
		second, _ := frame.Put(room[:n])
		if string(room) != s+"behind" {
			t.Fatalf("Put of %d bytes changed what it was handed: %q", n, room)
		}
		clear(room)
		if !bytes.Equal(first, made(s)) {
			t.Fatalf("Put of %d bytes kept them", n)
		}
		overwrite(first)
		if !bytes.Equal(second, made(s)) || !bytes.Equal(room, make([]byte, n+6)) {
			t.Fatalf("answers of Put of %d bytes share memory", n)
		}
	}
	room := make([]byte, 600)
	if frame.Put(room[:513]); !bytes.Equal(room, make([]byte, 600)) {
		t.Error("a Put that was refused changed what it was handed")
	}
}

// One piece written over, with its spare room, touches neither another nor what waits,
// nor what was fed.
func TestPiecesAreNewMemory(t *testing.T) {
	for n := range 64 {
		s, u := text('s', n), text('u', 63-n)
		all := row(made(s), made(u), made(""), spoilt(u, 40), made(s), made("waits")[:9])
		room := slices.Clone(all)
		c := frame.New()
		l := c.Feed(room)
		if !bytes.Equal(room, all) {
			t.Fatal("Feed changed what it was handed")
		}
		for k, p := range l {
			overwrite(p.B)
			for m, q := range l {
				if want := []string{s, u, "", "", s}[m]; m > k && string(q.B) != want {
					t.Fatalf("pieces %d and %d share memory: %q", k, m, q.B)
				}
			}
			if !bytes.Equal(room, all) {
				t.Fatalf("piece %d is of what was fed", k)
			}
		}
		more := l[:cap(l)]
		for k := range more {
			more[k] = frame.Piece{B: []byte("other"), Err: api.EARG}
		}
		feed(t, c, row(made("waits")[9:], made(s)), 0, false, good("waits"), good(s))
	}
}

// What was fed may be written over afterwards, and what was answered stays as it was.
func TestFeedKeepsNothing(t *testing.T) {
	stream := row(made("one"), made(text('t', 300)), spoilt("spoilt", 50), made(""), made("two"), made("three"))
	want, _, _ := cut(stream)
	for step := range 40 {
		c := frame.New()
		room := make([]byte, 100)
		var l []frame.Piece
		for at := 0; at < len(stream); at += step + 1 {
			b := room[:copy(room, stream[at:min(at+step+1, len(stream))])]
			l = append(l, c.Feed(b)...)
			if !bytes.Equal(b, stream[at:at+len(b)]) || !bytes.Equal(room[len(b):], make([]byte, 100-len(b))) {
				t.Fatalf("Feed changed what it was handed: %q", room)
			}
			clear(room)
		}
		if !alike(l, want) || c.Waits() != 0 || c.Dead() {
			t.Fatalf("by %d: %s, not %s", step+1, show(l), show(want))
		}
	}
}

// Two Cutters, one of which dies.
func TestApart(t *testing.T) {
	a, b := frame.New(), frame.New()
	feed(t, a, made("hello")[:4], 4, false)
	feed(t, b, nil, 0, false)
	feed(t, b, made("world")[:7], 7, false)
	feed(t, a, made("hello")[4:], 0, false, good("hello"))
	feed(t, b, nil, 7, false)
	feed(t, a, []byte{9, 9, 9}, 0, true, tooLong)
	feed(t, b, made("world")[7:], 0, false, good("world"))
	feed(t, frame.New(), made("new"), 0, false, good("new"))
	feed(t, a, made("hello"), 0, true)
}

// A very long Feed, and very many short ones, end soon.
func TestFeedOfVeryMany(t *testing.T) {
	const many = 400_000
	c := frame.New()
	stream := bytes.Repeat(made("a"), many)
	l := c.Feed(stream)
	if len(l) != many || c.Waits() != 0 {
		t.Fatalf("Feed of %d frames: %d", many, len(l))
	}
	for _, p := range l {
		if string(p.B) != "a" || p.Err != api.OK {
			t.Fatalf("Feed of %d frames: %s", many, show([]frame.Piece{p}))
		}
	}
	for k := range stream[:many] {
		if got := len(c.Feed(stream[k : k+1])); got != []int{0, 0, 0, 0, 0, 0, 1}[k%7] {
			t.Fatalf("Feed of byte %d: %d pieces", k, got)
		}
	}
	feed(t, frame.New(), make([]byte, 6*many), 0, false, slices.Repeat([]frame.Piece{wrongSum}, many)...)
	feed(t, frame.New(), bytes.Repeat([]byte{255}, 6*many), 0, true, tooLong)
}

func TestSideBySide(t *testing.T) {
	var all sync.WaitGroup
	wrong := make([]bool, 8)
	for i := range wrong {
		all.Go(func() {
			c := frame.New()
			for k := range 300 {
				s := text(byte(i+k), (i*67+k)%513)
				b, e := frame.Put([]byte(s))
				cut := (k * 31) % len(b)
				l := append(c.Feed(b[:cut]), c.Feed(b[cut:])...)
				if e != api.OK || !alike(l, []frame.Piece{good(s)}) || c.Waits() != 0 || c.Dead() {
					wrong[i] = true
				}
			}
		})
	}
	all.Wait()
	for i, w := range wrong {
		if w {
			t.Errorf("worker %d", i)
		}
	}
}

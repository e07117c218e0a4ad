package pack_test

import (
	"bytes"
	"math"
	"testing"

	"warrener/api"
	"warrener/pack"
)

// answer is what a read told: a number or a list.
type answer struct {
	v uint64
	l []byte
}

func (a answer) zero() bool { return a.v == 0 && len(a.l) == 0 }

func (a answer) same(b answer) bool { return a.v == b.v && bytes.Equal(a.l, b.l) }

// read is one call of a reader: way 0 to 3 a number, 4 Bytes, 5 Take.
type read struct{ way, n int }

func (x read) of(r *pack.Reader) answer {
	switch x.way {
	case 0:
		return answer{v: uint64(r.U8())}
	case 1:
		return answer{v: uint64(r.U16())}
	case 2:
		return answer{v: uint64(r.U32())}
	case 3:
		return answer{v: r.U64()}
	case 4:
		return answer{l: r.Bytes(x.n)}
	}
	return answer{l: r.Take(x.n)}
}

// reads are one of each way, with all edges of most and of n.
func reads() []read {
	l := []read{{0, 0}, {1, 0}, {2, 0}, {3, 0}}
	for _, n := range []int{math.MinInt, math.MinInt32, -65536, -1, 0, 1, 2, 3, 9, 65535, 65536, math.MaxInt32, math.MaxInt} {
		l = append(l, read{4, n}, read{5, n})
	}
	return l
}

// model is the chapter's words, over an index that only goes on.
type model struct {
	b  []byte
	at int
	e  api.Errno
}

func (m *model) number(wide int) uint64 {
	if m.e == api.OK && len(m.b)-m.at < wide {
		m.e = api.EMORE
	}
	if m.e != api.OK {
		return 0
	}
	v := uint64(0)
	for range wide {
		v = v*256 + uint64(m.b[m.at])
		m.at++
	}
	return v
}

func (m *model) list(n int) []byte {
	if m.e == api.OK && len(m.b)-m.at < n {
		m.e = api.EMORE
	}
	if m.e != api.OK {
		return nil
	}
	m.at += n
	return m.b[m.at-n : m.at]
}

func (m *model) read(x read) answer {
	if x.way < 4 {
		return answer{v: m.number(1 << x.way)}
	}
	n := x.n
	if x.way == 4 {
		n = int(m.number(2))
		if m.e == api.OK && n > x.n {
			m.e = api.EFORM
		}
	}
	if m.e == api.OK && n < 0 {
		m.e = api.EARG
	}
	return answer{l: m.list(n)}
}

func (m *model) left() int {
	if m.e != api.OK {
		return 0
	}
	return len(m.b) - m.at
}

func TestReadKnown(t *testing.T) {
	r := pack.New([]byte{1, 2, 3, 4, 5, 6, 7, 8, 9, 10, 11, 12, 13, 14, 15, 0, 2, 'h', 'i', 0, 0, 'x', 'y', 'z'})
	for i, c := range []struct {
		read read
		want answer
		left int
	}{
		{read{0, 0}, answer{v: 1}, 23},
		{read{1, 0}, answer{v: 0x0203}, 21},
		{read{2, 0}, answer{v: 0x04050607}, 17},
		{read{3, 0}, answer{v: 0x08090a0b0c0d0e0f}, 9},
		{read{4, 2}, answer{l: []byte("hi")}, 5},
		{read{5, 0}, answer{}, 5},
		{read{4, 0}, answer{}, 3},
		{read{5, 2}, answer{l: []byte("xy")}, 1},
		{read{5, 1}, answer{l: []byte("z")}, 0},
		{read{5, 0}, answer{}, 0},
	} {
		if got := c.read.of(r); !got.same(c.want) || r.Left() != c.left || r.Err() != api.OK {
			t.Errorf("number %d: %v, %d left, %v", i, got, r.Left(), r.Err())
		}
	}
}

func TestReadBack(t *testing.T) {
	for _, v := range values() {
		b := pack.U64(pack.U32(pack.U16(pack.U8(nil, uint8(v)), uint16(v)), uint32(v)), v)
		r := pack.New(b)
		if r.U8() != uint8(v) || r.U16() != uint16(v) || r.U32() != uint32(v) || r.U64() != v || r.Left() != 0 || r.Err() != api.OK {
			t.Errorf("%x does not come back", v)
		}
	}
	for _, n := range []int{0, 1, 255, 256, 257, 65534, 65535} {
		b, _ := pack.Bytes([]byte{7}, pattern(n))
		for _, most := range []int{n, n + 1, 65535, 65536, math.MaxInt} {
			r := pack.New(pack.U8(b, 42))
			if r.U8() != 7 || !bytes.Equal(r.Bytes(most), pattern(n)) || r.Left() != 1 || r.U8() != 42 || r.Err() != api.OK {
				t.Errorf("%d bytes of at most %d do not come back: %v", n, most, r.Err())
			}
		}
		r := pack.New(b[1:])
		if got := r.Bytes(n - 1); len(got) != 0 || r.Err() != api.EFORM || r.Left() != 0 {
			t.Errorf("%d bytes of at most %d: %d bytes, %v, %d left", n, n-1, len(got), r.Err(), r.Left())
		}
	}
}

func TestReaderOfNothing(t *testing.T) {
	for _, b := range [][]byte{nil, {}} {
		for _, x := range reads() {
			r := pack.New(b)
			if r.Left() != 0 || r.Err() != api.OK {
				t.Errorf("begun with nothing: %d, %v", r.Left(), r.Err())
			}
			want := api.EMORE
			if x.way == 5 && x.n < 0 {
				want = api.EARG
			} else if x.way == 5 && x.n == 0 {
				want = api.OK
			}
			if got := x.of(r); !got.zero() || r.Err() != want || r.Left() != 0 {
				t.Errorf("%v of nothing: %v, %v", x, got, r.Err())
			}
		}
	}
}

// Each width, just at the last byte and one past it.
func TestReadAtTheEnd(t *testing.T) {
	for way := range 4 {
		wide := 1 << way
		for n := range 20 {
			b := bytes.Repeat([]byte{255}, n)
			r := pack.New(b)
			for range n / wide {
				if got := (read{way, 0}).of(r); got.v != math.MaxUint64>>(64-8*wide) || r.Err() != api.OK {
					t.Errorf("%d wide of %d bytes: %v, %v", wide, n, got, r.Err())
				}
			}
			if r.Left() != n%wide {
				t.Errorf("%d wide of %d bytes: %d left", wide, n, r.Left())
			}
			if got := (read{way, 0}).of(r); !got.zero() || r.Err() != api.EMORE || r.Left() != 0 {
				t.Errorf("%d wide past %d bytes: %v, %v, %d left", wide, n, got, r.Err(), r.Left())
			}
		}
	}
}

func TestTake(t *testing.T) {
	for _, size := range []int{0, 1, 2, 3, 100} {
		for n := range size + 3 {
			b := pattern(size)
			r := pack.New(b)
			got := r.Take(n)
			if n <= size && (!bytes.Equal(got, b[:n]) || r.Left() != size-n || r.Err() != api.OK) {
				t.Errorf("Take %d of %d: % x, %d left, %v", n, size, got, r.Left(), r.Err())
			}
			if n > size && (len(got) != 0 || r.Left() != 0 || r.Err() != api.EMORE) {
				t.Errorf("Take %d of %d: % x, %d left, %v", n, size, got, r.Left(), r.Err())
			}
		}
		for n, want := range map[int]api.Errno{
			-1: api.EARG, -2: api.EARG, -65536: api.EARG, math.MinInt32: api.EARG, math.MinInt: api.EARG,
			1 << 16: api.EMORE, math.MaxInt32: api.EMORE, 1 << 32: api.EMORE, math.MaxInt: api.EMORE,
		} {
			r := pack.New(pattern(size))
			if got := r.Take(n); len(got) != 0 || r.Left() != 0 || r.Err() != want {
				t.Errorf("Take %d of %d: % x, %d left, %v", n, size, got, r.Left(), r.Err())
			}
		}
	}
}

func TestBytesRefused(t *testing.T) {
	for i, c := range []struct {
		b    []byte
		most int
		want api.Errno
	}{
		{nil, 9, api.EMORE},
		{nil, -1, api.EMORE}, // no number, so none that is more than most
		{[]byte{0}, 9, api.EMORE},
		{[]byte{255}, 0, api.EMORE},
		{[]byte{0, 1}, 1, api.EMORE},
		{[]byte{0, 3, 1, 2}, 3, api.EMORE},
		{[]byte{0, 3, 1, 2}, math.MaxInt, api.EMORE},
		{[]byte{255, 255, 1}, 65535, api.EMORE},
		{[]byte{1, 0, 1}, 256, api.EMORE},
		{[]byte{0, 3, 1, 2, 3}, 2, api.EFORM},
		{[]byte{0, 3, 1, 2}, 2, api.EFORM}, // too few as well: but the number tells
		{[]byte{0, 3}, 2, api.EFORM},
		{[]byte{1, 0}, 255, api.EFORM},
		{[]byte{255, 255}, 65534, api.EFORM},
		{[]byte{0, 1, 1}, 0, api.EFORM},
		{[]byte{0, 0}, -1, api.EFORM},
		{[]byte{0, 1, 1}, -1, api.EFORM},
		{[]byte{0, 0, 1}, math.MinInt, api.EFORM},
	} {
		r := pack.New(c.b)
		if got := r.Bytes(c.most); len(got) != 0 || r.Err() != c.want || r.Left() != 0 {
			t.Errorf("number %d: % x, %v, %d left", i, got, r.Err(), r.Left())
		}
	}
}

// Behind each error each read, twice: all is zero, and the first error stays.
func TestFirstErrorStays(t *testing.T) {
	more := []byte{0, 1, 2, 3, 4, 5, 6, 7, 8, 9}
	for _, c := range []struct {
		b     []byte
		ahead int
		read  read
		want  api.Errno
	}{
		{[]byte{0, 1, 9}, 3, read{0, 0}, api.EMORE},
		{[]byte{0, 1, 9}, 2, read{1, 0}, api.EMORE},
		{[]byte{0, 1, 9}, 0, read{2, 0}, api.EMORE},
		{more[:7], 0, read{3, 0}, api.EMORE},
		{more, 3, read{3, 0}, api.EMORE},
		{more, 0, read{5, 11}, api.EMORE},
		{more, 0, read{5, math.MaxInt}, api.EMORE},
		{more, 0, read{5, -1}, api.EARG},
		{more, 10, read{5, math.MinInt}, api.EARG},
		{more, 0, read{4, 0}, api.EFORM},
		{more, 0, read{4, -1}, api.EFORM},
		{more, 2, read{4, 65535}, api.EMORE},
		{more, 9, read{4, 65535}, api.EMORE},
	} {
		for _, x := range reads() {
			r := pack.New(c.b)
			r.Take(c.ahead)
			if got := c.read.of(r); !got.zero() || r.Err() != c.want {
				t.Errorf("%v behind %d of % x: %v, %v", c.read, c.ahead, c.b, got, r.Err())
			}
			for range 2 {
				if r.Left() != 0 {
					t.Errorf("behind %v of % x: %d left", c.read, c.b, r.Left())
				}
				if got := x.of(r); !got.zero() || r.Err() != c.want {
					t.Errorf("%v behind %v of % x: %v, %v", x, c.read, c.b, got, r.Err())
				}
			}
		}
	}
}

// Rows of reads of any kind, held against the model at each step.
func TestReadsAsTheModel(t *testing.T) {
	all := reads()
	x := uint32(1)
	next := func(n int) int {
		x = x*1664525 + 1013904223
		return int(x>>8) % n
	}
	for range 20000 {
		b := pattern(next(40))
		for i := range b {
			if next(2) == 0 {
				b[i] = byte(next(4)) // so that some numbers ahead of bytes are small
			}
		}
		r, m := pack.New(b), &model{b: b}
		for step := range 12 {
			c := all[next(len(all))]
			if next(2) == 0 {
				c = read{c.way, next(12)}
			}
			got, want := c.of(r), m.read(c)
			if !got.same(want) || r.Left() != m.left() || r.Err() != m.e {
				t.Fatalf("% x, step %d, %v: %v, %d, %v, not %v, %d, %v", b, step, c, got, r.Left(), r.Err(), want, m.left(), m.e)
			}
		}
	}
}

func TestReaderKeepsNoArgument(t *testing.T) {
	room := append(append([]byte{0, 2, 'h', 'i'}, pattern(20)...), "behind"...)
	before := bytes.Clone(room)
	r := pack.New(room[:24])
	clear(room)
	if r.Left() != 24 || string(r.Bytes(2)) != "hi" || !bytes.Equal(r.Take(20), before[4:24]) || r.Left() != 0 {
		t.Error("a reader hangs on what comes later")
	}
	copy(room, before)
	r = pack.New(room[:24])
	for _, x := range reads() {
		x.of(r)
	}
	if !bytes.Equal(room, before) {
		t.Error("the bytes were changed, or the room behind")
	}
}

func TestReadsAreNewMemory(t *testing.T) {
	b, _ := pack.Bytes([]byte("head"), []byte("some"))
	b = append(b, "tail and more"...)
	before := bytes.Clone(b)
	r := pack.New(b)
	for i, want := range []string{"head", "some", "tail"} {
		var got []byte
		if i == 1 {
			got = r.Bytes(4)
		} else {
			got = r.Take(4)
		}
		if string(got) != want {
			t.Fatalf("number %d: %q, not %q", i, got, want)
		}
		clear(got[:cap(got)])
		if !bytes.Equal(b, before) {
			t.Errorf("number %d shares memory with the argument", i)
		}
	}
	if got := r.Take(r.Left()); string(got) != " and more" {
		t.Errorf("the rest hangs on what became of the answers: %q", got)
	}
}

func TestReadersAlone(t *testing.T) {
	b := []byte{1, 2, 3}
	r, s := pack.New(b), pack.New(b)
	r.U64()
	if s.Left() != 3 || s.Err() != api.OK || s.U8() != 1 || s.U16() != 0x0203 {
		t.Error("one reader tells of another")
	}
	if got := pack.New(b).Take(3); !bytes.Equal(got, b) {
		t.Errorf("a new reader of the same bytes: % x", got)
	}
}

// Asking changes nothing.
func TestAskingTwice(t *testing.T) {
	r := pack.New([]byte{5, 6})
	for range 3 {
		if r.Left() != 2 || r.Err() != api.OK {
			t.Errorf("%d left, %v", r.Left(), r.Err())
		}
	}
	if r.U8() != 5 || r.Left() != 1 || r.Left() != 1 {
		t.Errorf("%d left", r.Left())
	}
}

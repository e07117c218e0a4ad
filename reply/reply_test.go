package reply_test

import (
	"bytes"
	"encoding/binary"
	"fmt"
	"math"
	"slices"
	"sync"
	"testing"

	"warrener/api"
	"warrener/pack"
	"warrener/reply"
)

// fine is an answer of Fine.
func fine(hit bool, slot uint32, body []byte) reply.Reply {
	return reply.Reply{Hit: hit, Slot: slot, Body: body}
}

// other is an answer of a Status that has no Hit and no Body.
func other(status int, slot uint32) reply.Reply {
	return reply.Reply{Status: api.Status(status), Slot: slot}
}

// pattern is n bytes that tell each place from those near it.
func pattern(n int) []byte {
	b := make([]byte, n)
	for i := range b {
		b[i] = byte(i*7 + i>>8 + 3)
	}
	return b
}

func alike(a, b reply.Reply) bool {
	return a.Status == b.Status && a.Hit == b.Hit && a.Slot == b.Slot && bytes.Equal(a.Body, b.Body)
}

// none tells whether it is no answer: each field is zero.
func none(r reply.Reply) bool { return alike(r, reply.Reply{}) }

// tell tells an answer in few words, however long it is.
func tell(r reply.Reply) string {
	return fmt.Sprintf("{%d %v %d, %d bytes %x}", int(r.Status), r.Hit, r.Slot, len(r.Body), r.Body[:min(len(r.Body), 20)])
}

// raw is bytes as of an answer, by another writer than the program's own: each part is
// what it is told to be, be it Good or not.
func raw(status, hit byte, slot uint32, body []byte) []byte {
	b := binary.BigEndian.AppendUint32([]byte{status, hit}, slot)
	return append(binary.BigEndian.AppendUint16(b, uint16(len(body))), body...)
}

// made is what should be written of an answer.
func made(r reply.Reply) []byte {
	hit := byte(0)
	if r.Hit {
		hit = 1
	}
	return raw(byte(r.Status), hit, r.Slot, r.Body)
}

// gives holds what Get tells of bytes that begin with a Good answer.
func gives(t *testing.T, b []byte, want reply.Reply, size int) {
	t.Helper()
	r, n, e := reply.Get(b)
	if e != api.OK || n != size || !alike(r, want) {
		t.Fatalf("Get of %d bytes, %.60x: %s, %d, %d, not %s, %d", len(b), b, tell(r), n, e, tell(want), size)
	}
}

// fails holds what Get tells of bytes that begin with no answer, and Log, which reads them first.
func fails(t *testing.T, b []byte, want api.Errno) {
	t.Helper()
	if r, n, e := reply.Get(b); e != want || n != 0 || !none(r) {
		t.Fatalf("Get of %d bytes, %.60x: %s, %d, %d, not %d", len(b), b, tell(r), n, e, want)
	}
	if len(b) == 0 {
		return
	}
	if l, e := reply.Log(b); e != want || len(l) != 0 {
		t.Fatalf("Log of %d bytes, %.60x: %d answers, %d, not %d", len(b), b, len(l), e, want)
	}
}

// holds holds what becomes of a Good answer: it is written as it should be, and read
// back, whatever comes behind it; what was read is written alike; without its last
// bytes, however many, there is more to come.
func holds(t *testing.T, r reply.Reply) {
	t.Helper()
	want := made(r)
	if !reply.Good(r) {
		t.Fatalf("Good of %s: false", tell(r))
	}
	b, e := reply.Put(r)
	if e != api.OK || !bytes.Equal(b, want) || len(b) != 8+len(r.Body) {
		t.Fatalf("Put of %s: %x, %d, not %x", tell(r), b, e, want)
	}
	g, n, e := reply.Get(want)
	if e != api.OK || n != len(want) || !alike(g, r) {
		t.Fatalf("Get of %x: %s, %d, %d, not %s", want, tell(g), n, e, tell(r))
	}
	if again, e := reply.Put(g); e != api.OK || !bytes.Equal(again, want) || !reply.Good(g) {
		t.Fatalf("Put of what Get told of %x: %x, %d", want, again, e)
	}
	for _, more := range [][]byte{{0}, {1}, {9}, {255}, want, pattern(300)} {
		gives(t, slices.Concat(want, more), r, len(want))
	}
	for n := range want {
		fails(t, want[:n], api.EMORE)
	}
	if l, e := reply.Log(want); e != api.OK || len(l) != 1 || !alike(l[0], r) {
		t.Fatalf("Log of %x: %d answers, %d", want, len(l), e)
	}
}

// refused holds what becomes of an answer that is not Good: there are no bytes of it.
func refused(t *testing.T, r reply.Reply) {
	t.Helper()
	if reply.Good(r) {
		t.Fatalf("Good of %s: true", tell(r))
	}
	if b, e := reply.Put(r); e != api.EARG || len(b) != 0 {
		t.Fatalf("Put of %s: %.60x, %d", tell(r), b, e)
	}
}

func TestExample(t *testing.T) {
	b, e := reply.Put(reply.Reply{Status: api.Busy, Slot: 1})
	if e != api.OK || len(b) != 8 {
		t.Errorf("Put of Busy at slot 1: %d bytes, %d", len(b), e)
	}
}

// Written out: each part in its place, the highest byte of each number first.
func TestBytes(t *testing.T) {
	for _, c := range []struct {
		r    reply.Reply
		want string
	}{
		{reply.Reply{}, "\x00\x00\x00\x00\x00\x00\x00\x00"},
		{fine(false, 1, nil), "\x00\x00\x00\x00\x00\x01\x00\x00"},
		{fine(true, 1, nil), "\x00\x01\x00\x00\x00\x01\x00\x00"},
		{fine(false, 0x01020304, []byte("x")), "\x00\x00\x01\x02\x03\x04\x00\x01x"},
		{fine(true, 0x01020304, []byte("hello")), "\x00\x01\x01\x02\x03\x04\x00\x05hello"},
		{fine(true, math.MaxUint32, []byte{0, 0}), "\x00\x01\xff\xff\xff\xff\x00\x02\x00\x00"},
		{fine(false, 1<<31, bytes.Repeat([]byte("z"), 255)), "\x00\x00\x80\x00\x00\x00\x00\xff" + string(bytes.Repeat([]byte("z"), 255))},
		{other(1, 0), "\x01\x00\x00\x00\x00\x00\x00\x00"},
		{other(2, 256), "\x02\x00\x00\x00\x01\x00\x00\x00"},
		{other(3, 1), "\x03\x00\x00\x00\x00\x01\x00\x00"},
		{other(4, 65536), "\x04\x00\x00\x01\x00\x00\x00\x00"},
		{other(5, 0xfffefdfc), "\x05\x00\xff\xfe\xfd\xfc\x00\x00"},
		{other(6, 1<<24), "\x06\x00\x01\x00\x00\x00\x00\x00"},
		{other(7, 255), "\x07\x00\x00\x00\x00\xff\x00\x00"},
		{other(8, math.MaxUint32), "\x08\x00\xff\xff\xff\xff\x00\x00"},
	} {
		if b, e := reply.Put(c.r); string(b) != c.want || e != api.OK {
			t.Errorf("Put of %s: %x, %d, not %x", tell(c.r), b, e, c.want)
		}
		gives(t, []byte(c.want), c.r, len(c.want))
		holds(t, c.r)
	}
}

// slots are those at the edges, each byte apart, and each bit.
func slots() []uint32 {
	l := []uint32{0, 1, 2, 255, 256, 257, 65535, 65536, 1<<24 - 1, 1 << 24, math.MaxInt32, 1 << 31, 1<<31 + 1, math.MaxUint32 - 1, math.MaxUint32, 0x01020304, 0x04030201, 0x80706050, 0xff000000, 0x00ff0000, 0x0000ff00, 0x000000ff}
	for i := range 32 {
		l = append(l, 1<<i, math.MaxUint32-1<<i)
	}
	return l
}

// An answer of each Status at each of the Slots; of Fine with Hit and without, with Bodies.
func TestStatusesAndSlots(t *testing.T) {
	for _, slot := range slots() {
		for status := range 9 {
			holds(t, other(status, slot))
			r := other(status, slot)
			r.Body = []byte{}
			holds(t, r)
		}
		for _, n := range []int{0, 1, 2, 9, 254, 255} {
			holds(t, fine(false, slot, pattern(n)))
			holds(t, fine(true, slot, pattern(n)))
		}
	}
	for at := range 4 {
		for x := range 256 {
			slot := uint32(x) << (24 - 8*at)
			b, _ := reply.Put(other(8, slot))
			want := []byte{8, 0, 0, 0, 0, 0, 0, 0}
			want[2+at] = byte(x)
			if !bytes.Equal(b, want) {
				t.Fatalf("Put at slot %d: %x, not %x", slot, b, want)
			}
			gives(t, want, other(8, slot), 8)
		}
	}
}

func TestBodies(t *testing.T) {
	for n := range 256 {
		holds(t, fine(n%2 == 0, uint32(n), pattern(n)))
		holds(t, fine(n%2 == 1, uint32(n), make([]byte, n)))
		holds(t, fine(n%2 == 1, uint32(n), bytes.Repeat([]byte{255}, n)))
	}
	for x := range 256 {
		holds(t, fine(false, 5, []byte{byte(x)}))
		holds(t, fine(true, 5, []byte{7, byte(x), 8}))
	}
	for _, status := range []int{0, 1, 8} { // empty, whatever room there is
		r := other(status, 3)
		r.Body = pattern(9)[:0]
		holds(t, r)
	}
}

func TestRefusedStatuses(t *testing.T) {
	l := []int{math.MinInt, math.MinInt + 1, math.MinInt + 8, math.MinInt32, -1 << 32, -65536, -257, -256, -255, -248, 127, 128, 254, 255, 256, 257, 258, 264, 265, 512, 65535, 65536, 65537, 1 << 31, 1 << 32, 1<<32 + 1, 1<<32 + 8, math.MaxInt - 1, math.MaxInt}
	for i := range 100 {
		l = append(l, -1-i, 9+i)
	}
	for _, status := range l {
		for _, r := range []reply.Reply{{}, {Slot: 1}, {Hit: true}, {Body: []byte{1}}, {Hit: true, Slot: math.MaxUint32, Body: pattern(255)}, {Body: pattern(256)}} {
			r.Status = api.Status(status)
			refused(t, r)
		}
	}
}

// Hit, a Body, or both, of what is not Fine.
func TestRefusedOthers(t *testing.T) {
	for status := 1; status < 9; status++ {
		for _, slot := range []uint32{0, 1, math.MaxUint32} {
			r := other(status, slot)
			holds(t, r)
			r.Hit = true
			refused(t, r)
			for _, n := range []int{1, 2, 8, 254, 255, 256, 257, 65535, 65536} {
				r.Hit, r.Body = true, pattern(n)
				refused(t, r)
				r.Hit = false
				refused(t, r)
			}
		}
	}
}

func TestRefusedBodies(t *testing.T) {
	for _, n := range []int{256, 257, 258, 300, 511, 512, 513, 65535, 65536, 65537, 65536 + 255, 1 << 20, 1 << 26} {
		for _, hit := range []bool{false, true} {
			refused(t, fine(hit, 1, make([]byte, n)))
		}
	}
}

// nothings are lists of no bytes.
func nothings() [][]byte { return [][]byte{nil, {}, pattern(9)[:0], make([]byte, 0, 300)} }

func TestOfNothing(t *testing.T) {
	for _, b := range nothings() {
		fails(t, b, api.EMORE)
		if l, e := reply.Log(b); len(l) != 0 || e != api.OK {
			t.Errorf("Log of no bytes: %d answers, %d", len(l), e)
		}
	}
}

// Each Status, each Hit byte, with a Body or without: whole, and cut off at each place.
// What is missing is told ahead of what may not be.
func TestGetOfStatusesAndHits(t *testing.T) {
	for status := range 256 {
		for hit := range 256 {
			for _, n := range []int{0, 1, 3} {
				b := raw(byte(status), byte(hit), 0xa1b2c3d4, pattern(n))
				if status == 0 && hit < 2 {
					gives(t, b, fine(hit == 1, 0xa1b2c3d4, pattern(n)), 8+n)
				} else if status < 9 && hit == 0 && n == 0 {
					gives(t, b, other(status, 0xa1b2c3d4), 8)
				} else {
					fails(t, b, api.EFORM)
					fails(t, append(b, 0, 0, 0, 0, 0, 0, 0, 0), api.EFORM)
				}
				for k := range b {
					fails(t, b[:k:k], api.EMORE)
				}
			}
		}
	}
}

// Each of a Body's numbers, with nothing behind it, just so many, one fewer, more.
func TestGetOfBodyNumbers(t *testing.T) {
	all := pattern(300)
	for _, c := range []struct{ status, hit byte }{{0, 0}, {0, 1}, {0, 2}, {3, 0}, {3, 1}, {8, 0}, {9, 0}, {255, 255}} {
		for n := range 65536 {
			b := binary.BigEndian.AppendUint16([]byte{c.status, c.hit, 0, 0, 1, 0}, uint16(n))
			if n > 255 {
				fails(t, b, api.EFORM)
				continue
			}
			if n > 0 {
				fails(t, b, api.EMORE)
				fails(t, slices.Concat(b, all[:n-1]), api.EMORE)
			}
			for _, more := range []int{0, 1, 45} {
				whole := slices.Concat(b, all[:n+more])
				if c.status == 0 && c.hit < 2 {
					gives(t, whole, fine(c.hit == 1, 256, all[:n]), 8+n)
				} else if c.status < 9 && c.hit == 0 && n == 0 {
					gives(t, whole, other(int(c.status), 256), 8)
				} else {
					fails(t, whole, api.EFORM)
				}
			}
		}
	}
}

// A Body's number above 255 is told by itself, however many bytes are behind it; its
// first byte alone tells nothing.
func TestGetOfTooLongBodies(t *testing.T) {
	for _, n := range []int{256, 257, 300, 511, 512, 65535} {
		for _, status := range []byte{0, 1, 8, 9, 255} {
			b := raw(status, 0, 1, pattern(n))
			for k := range 8 {
				fails(t, b[:k], api.EMORE)
			}
			for _, k := range []int{8, 9, 10, 262, 263, 264, 265, n, n + 7, n + 8} {
				fails(t, b[:min(k, len(b))], api.EFORM)
			}
			fails(t, append(b, 0), api.EFORM)
		}
	}
}

// row is n answers of all kinds, and the bytes of all.
func row(n int) ([]reply.Reply, []byte) {
	var l []reply.Reply
	var b []byte
	for i := range n {
		r := other(i%9, uint32(i)*0x01000193)
		if i%9 == 0 || i%5 == 0 {
			r = fine(i%2 == 1, uint32(i), pattern(i*37%256))
		}
		l = append(l, r)
		b = append(b, made(r)...)
	}
	return l, b
}

// tells holds what Log tells of bytes that are all of a row.
func tells(t *testing.T, b []byte, want []reply.Reply) {
	t.Helper()
	l, e := reply.Log(b)
	if e != api.OK || !slices.EqualFunc(l, want, alike) {
		t.Fatalf("Log of %d answers in %d bytes: %d answers, %d", len(want), len(b), len(l), e)
	}
}

func TestLog(t *testing.T) {
	for _, n := range []int{0, 1, 2, 3, 9, 10, 64, 1000, 100_000} {
		l, b := row(n)
		tells(t, b, l)
		put := []byte{}
		for _, r := range l {
			one, _ := reply.Put(r)
			put = append(put, one...)
		}
		if !bytes.Equal(put, b) {
			t.Fatalf("Put of each of %d answers: not the bytes that Log reads", n)
		}
	}
	for status := range 9 { // of one kind, alike in all
		l := slices.Repeat([]reply.Reply{other(status, 7)}, 40)
		tells(t, bytes.Repeat(made(l[0]), 40), l)
	}
	l := slices.Repeat([]reply.Reply{fine(true, 7, pattern(255))}, 40)
	tells(t, bytes.Repeat(made(l[0]), 40), l)
}

// Log is Get, again and again.
func TestLogAsGet(t *testing.T) {
	l, b := row(500)
	at := 0
	for i := range l {
		r, n, e := reply.Get(b[at:])
		if e != api.OK || n != 8+len(l[i].Body) || !alike(r, l[i]) {
			t.Fatalf("Get of answer %d of a log: %s, %d, %d", i, tell(r), n, e)
		}
		tells(t, b[at:], l[i:])
		at += n
		tells(t, b[:at], l[:i+1])
	}
	if at != len(b) {
		t.Errorf("%d bytes of %d", at, len(b))
	}
}

// A log that is cut off: whole where one ends, and no answers anywhere else.
func TestLogCutOff(t *testing.T) {
	l, b := row(30)
	ends := map[int]int{0: 0}
	for i, at := 0, 0; i < len(l); i++ {
		at += 8 + len(l[i].Body)
		ends[at] = i + 1
	}
	for k := range len(b) + 1 {
		if n, ok := ends[k]; ok {
			tells(t, b[:k], l[:n])
			continue
		}
		if got, e := reply.Log(b[:k]); e != api.EMORE || len(got) != 0 {
			t.Fatalf("Log of the first %d bytes: %d answers, %d", k, len(got), e)
		}
	}
}

// What may not be, at each place of a log, and another behind it: the first one is told.
func TestLogFirstError(t *testing.T) {
	l, _ := row(12)
	noForm := [][]byte{
		raw(9, 0, 1, nil), raw(255, 0, 1, nil), raw(0, 2, 1, nil), raw(0, 255, 1, []byte("ab")), raw(1, 1, 1, nil),
		raw(3, 0, 1, []byte("x")), raw(8, 1, 1, pattern(255)), {0, 0, 0, 0, 0, 1, 1, 0},
	}
	for place := range len(l) + 1 {
		var ahead, behind []byte
		for i, r := range l {
			if i < place {
				ahead = append(ahead, made(r)...)
			} else {
				behind = append(behind, made(r)...)
			}
		}
		for _, bad := range noForm {
			for _, rest := range [][]byte{nil, behind, {1}, raw(9, 0, 0, nil)} {
				if got, e := reply.Log(slices.Concat(ahead, bad, rest)); e != api.EFORM || len(got) != 0 {
					t.Fatalf("Log of %x behind %d answers: %d answers, %d", bad, place, len(got), e)
				}
			}
			if got, e := reply.Log(slices.Concat(ahead, bad[:len(bad)-1])); e != api.EMORE || len(got) != 0 {
				t.Fatalf("Log of %x, but its last byte, behind %d answers: %d answers, %d", bad, place, len(got), e)
			}
		}
		for _, few := range []string{"\x00", "\x09", "\xff", "\x00\x02", "\x00\x00\x00\x00\x00\x00\x00", "\x01\x01\x00\x00\x00\x00\x00\xff"} {
			if got, e := reply.Log(append(bytes.Clone(ahead), few...)); e != api.EMORE || len(got) != 0 {
				t.Fatalf("Log of %x behind %d answers: %d answers, %d", few, place, len(got), e)
			}
		}
	}
}

func TestNobody(t *testing.T) {
	for range 3 {
		b := reply.Nobody()
		if !bytes.Equal(b, []byte{255}) {
			t.Fatalf("Nobody: %x", b)
		}
		overwrite(b)
	}
	first, second := reply.Nobody(), reply.Nobody()
	first[0] = 7
	if second[0] != 255 {
		t.Error("two answers to nobody share memory")
	}
	fails(t, reply.Nobody(), api.EMORE) // it is no answer, nor a whole one's beginning
}

// read is what should be told of the first answer in any bytes, by the chapter's words.
func read(b []byte) (reply.Reply, int, api.Errno) {
	if len(b) < 8 {
		return reply.Reply{}, 0, api.EMORE
	}
	n := int(b[6])*256 + int(b[7])
	if n > 255 {
		return reply.Reply{}, 0, api.EFORM
	}
	if len(b) < 8+n {
		return reply.Reply{}, 0, api.EMORE
	}
	if b[1] > 1 || b[0] > 8 || b[0] > 0 && (b[1] > 0 || n > 0) {
		return reply.Reply{}, 0, api.EFORM
	}
	r := reply.Reply{Status: api.Status(b[0]), Hit: b[1] == 1, Slot: binary.BigEndian.Uint32(b[2:]), Body: b[8 : 8+n]}
	return r, 8 + n, api.OK
}

// readAll is what should be told of all.
func readAll(b []byte) ([]reply.Reply, api.Errno) {
	var l []reply.Reply
	for len(b) > 0 {
		r, n, e := read(b)
		if e != api.OK {
			return nil, e
		}
		l, b = append(l, r), b[n:]
	}
	return l, api.OK
}

// agrees holds Get and Log of any bytes against read and readAll; if there is an answer, it makes just these bytes.
func agrees(t *testing.T, b []byte) {
	t.Helper()
	want, size, wantErr := read(b)
	r, n, e := reply.Get(b)
	if e != wantErr || n != size || !alike(r, want) {
		t.Fatalf("Get of %x: %s, %d, %d, not %s, %d, %d", b, tell(r), n, e, tell(want), size, wantErr)
	}
	all, allErr := readAll(b)
	if l, e := reply.Log(b); e != allErr || !slices.EqualFunc(l, all, alike) {
		t.Fatalf("Log of %x: %d answers, %d, not %d, %d", b, len(l), e, len(all), allErr)
	}
	if e != api.OK {
		return
	}
	if again, e := reply.Put(r); e != api.OK || !bytes.Equal(again, b[:n]) {
		t.Fatalf("Put of what Get told of %x: %x, %d", b, again, e)
	}
}

// Each one byte of answers made another.
func TestOneByteMadeAnother(t *testing.T) {
	for _, r := range []reply.Reply{{}, fine(true, 0x01020304, nil), fine(false, 5, []byte("x")), fine(true, 9, pattern(20)), fine(false, 1, pattern(255)), other(1, 2), other(3, 1), other(8, math.MaxUint32)} {
		for _, behind := range [][]byte{nil, made(other(4, 1)), pattern(280)} {
			b := slices.Concat(made(r), behind)
			for at := range min(len(b), 40) {
				was := b[at]
				for x := range 256 {
					b[at] = byte(x)
					agrees(t, b)
				}
				b[at] = was
			}
		}
	}
}

// Logs with some bytes turned, cut off or laid behind.
func TestAnyBytes(t *testing.T) {
	x := uint32(1)
	next := func(n int) int {
		x = x*1664525 + 1013904223
		return int(x>>8) % n
	}
	for range 40_000 {
		var b []byte
		for range next(5) {
			r := fine(next(2) == 0, uint32(next(1<<20))*4097, pattern(next(300)%260))
			if next(2) == 0 {
				r = other(next(40)%10, uint32(next(1<<20)))
			}
			b = append(b, made(r)...)
		}
		switch next(5) {
		case 0:
			b = append(b, 0)
			b[next(len(b))] ^= 1 << next(8)
		case 1:
			b = b[:next(len(b)+1)]
		case 2:
			b = append(b, make([]byte, next(20))...)
		case 3:
			b = append(b, pattern(next(20))...)
		}
		agrees(t, b)
	}
}

// It is as pack writes and reads it.
func TestAsPackTells(t *testing.T) {
	b, _ := pack.Bytes(pack.U32(pack.U8(pack.U8(nil, 0), 1), 1<<31+5), []byte("body"))
	gives(t, b, fine(true, 1<<31+5, []byte("body")), 12)
	b, _ = reply.Put(fine(true, 77, []byte("more")))
	r := pack.New(b)
	if r.U8() != 0 || r.U8() != 1 || r.U32() != 77 || string(r.Bytes(255)) != "more" || r.Left() != 0 || r.Err() != api.OK {
		t.Errorf("Put, by pack: %x", b)
	}
}

// What was handed to Good, Put, Get or Log is as it was, spare room included, refused or not.
func TestHandedInIsNotChanged(t *testing.T) {
	room := pattern(300)
	for n := range 290 {
		for status := -1; status < 10; status++ {
			r := reply.Reply{Status: api.Status(status), Hit: n%2 == 0, Slot: 1, Body: room[:n]}
			reply.Good(r)
			reply.Put(r)
		}
	}
	if !bytes.Equal(room, pattern(300)) {
		t.Fatalf("a Body was changed: %x", room)
	}
	_, log := row(20)
	for _, b := range [][]byte{log, raw(9, 0, 1, pattern(9)), raw(0, 2, 1, pattern(9)), raw(1, 1, 1, pattern(9)), raw(0, 0, 1, pattern(256)), make([]byte, 60)} {
		room := append(bytes.Clone(b), "behind"...)
		before := bytes.Clone(room)
		for n := range len(b) + 1 {
			reply.Get(room[:n])
			reply.Log(room[:n])
		}
		if !bytes.Equal(room, before) {
			t.Fatalf("bytes that were read were changed: %x, not %x", room, before)
		}
	}
}

// overwrite writes all over an answer, spare room included.
func overwrite(b []byte) {
	b = b[:cap(b)]
	for k := range b {
		b[k] = 99
	}
}

// What was told stays as it was when what was handed in is written over, and may itself
// be written over, spare room included.
func TestPutIsNewMemory(t *testing.T) {
	for n := range 256 {
		body := pattern(n + 20)
		r := fine(n%2 == 0, uint32(n), body[:n])
		want := made(r)
		first, _ := reply.Put(r)
		second, _ := reply.Put(r)
		overwrite(first)
		if !bytes.Equal(second, want) || !bytes.Equal(body, pattern(n+20)) {
			t.Fatalf("Put of %s shares memory: %x", tell(r), second)
		}
		overwrite(body)
		if !bytes.Equal(second, want) {
			t.Fatalf("Put of a Body of %d bytes kept it", n)
		}
		if third, _ := reply.Put(fine(r.Hit, r.Slot, pattern(n))); !bytes.Equal(third, want) {
			t.Fatalf("Put of %d bytes, after an answer was written over: %x", n, third)
		}
	}
}

func TestGetIsNewMemory(t *testing.T) {
	for n := range 256 {
		want := fine(n%2 == 0, uint32(n), pattern(n))
		b := append(made(want), "behind"...)
		first, _, _ := reply.Get(b)
		second, _, _ := reply.Get(b)
		overwrite(first.Body)
		if !alike(second, want) || !bytes.Equal(b, append(made(want), "behind"...)) {
			t.Fatalf("Get of %s shares memory: %s", tell(want), tell(second))
		}
		overwrite(b)
		if !alike(second, want) {
			t.Fatalf("Get of %s kept what it was handed: %s", tell(want), tell(second))
		}
	}
}

// Of one Log no two Bodies share memory, of two Logs no lists do.
func TestLogIsNewMemory(t *testing.T) {
	want, b := row(60)
	before := bytes.Clone(b)
	for i := range want {
		first, _ := reply.Log(b)
		second, _ := reply.Log(b)
		overwrite(first[i].Body)
		first[i].Body = want[i].Body
		if !slices.EqualFunc(first, want, alike) || !slices.EqualFunc(second, want, alike) || !bytes.Equal(b, before) {
			t.Fatalf("the Body of answer %d shares memory", i)
		}
	}
	first, _ := reply.Log(b)
	second, _ := reply.Log(b)
	clear(first[:cap(first)])
	overwrite(b)
	if !slices.EqualFunc(second, want, alike) {
		t.Error("a list shares memory with another, or with what was handed in")
	}
}

// Very many bytes: behind the first one they are nothing to Get, and Log goes through them once.
func TestVeryMany(t *testing.T) {
	one := made(fine(true, 3, pattern(200)))
	gives(t, slices.Concat(one, make([]byte, 1<<25)), fine(true, 3, pattern(200)), 208)
	fails(t, slices.Concat([]byte{9}, make([]byte, 1<<25)), api.EFORM)
	b := make([]byte, 1<<23)
	if l, e := reply.Log(b); e != api.OK || len(l) != 1<<20 || !none(l[0]) || !none(l[1<<20-1]) {
		t.Errorf("Log of 2^20 answers: %d, %d", len(l), e)
	}
	if l, e := reply.Log(b[1:]); e != api.EMORE || len(l) != 0 {
		t.Errorf("Log of a byte fewer: %d, %d", len(l), e)
	}
	many := make([]byte, 1<<22)
	for at := 0; at < len(many); {
		_, n, e := reply.Get(many[at:])
		if e != api.OK || n != 8 {
			t.Fatalf("Get from byte %d on: %d, %d", at, n, e)
		}
		at += n
	}
}

func TestSideBySide(t *testing.T) {
	want, log := row(50)
	wrong := make([]bool, 8)
	var all sync.WaitGroup
	for i := range wrong {
		all.Go(func() {
			for k := range 300 {
				r := want[(i+k)%50]
				b, e := reply.Put(r)
				g, n, f := reply.Get(b)
				l, d := reply.Log(log)
				if e != api.OK || f != api.OK || d != api.OK || n != len(b) || !alike(g, r) || !slices.EqualFunc(l, want, alike) || reply.Nobody()[0] != 255 {
					wrong[i] = true
				}
			}
		})
	}
	all.Wait()
	if slices.Contains(wrong, true) {
		t.Errorf("workers that were told another thing: %v", wrong)
	}
}

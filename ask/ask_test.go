package ask_test

import (
	"bytes"
	"encoding/binary"
	"math"
	"slices"
	"strings"
	"sync"
	"testing"

	"warrener/api"
	"warrener/ask"
	"warrener/pack"
)

const (
	least    = math.MinInt64
	greatest = math.MaxInt64
	letters  = "abcdefghijklmnopqrstuvwxyz0123456789_"
)

func push(name string, l ...ask.Sample) ask.Ask { return ask.Ask{Kind: 1, Name: name, Samples: l} }

func query(name string, from, to int64, want int) ask.Ask {
	return ask.Ask{Kind: 2, Name: name, From: from, To: to, Want: want}
}

// samples are n that tell each place from the others.
func samples(n int) []ask.Sample {
	l := make([]ask.Sample, n)
	for i := range l {
		l[i] = ask.Sample{T: int64(i)*0x0102030405060708 + 1, V: -int64(i)*0x1112131415161718 - 2}
	}
	return l
}

func alike(a, b ask.Ask) bool {
	return a.Kind == b.Kind && a.Name == b.Name && slices.Equal(a.Samples, b.Samples) && a.From == b.From && a.To == b.To && a.Want == b.Want
}

// none tells whether it is no request: each field is zero.
func none(a ask.Ask) bool { return alike(a, ask.Ask{}) }

// numbers is each of l in eight bytes, by another writer than the program's own.
func numbers(l ...int64) []byte {
	var b []byte
	for _, v := range l {
		b = binary.BigEndian.AppendUint64(b, uint64(v))
	}
	return b
}

// ahead is what a request begins with: its Kind, and a Name with how many bytes it has.
func ahead(kind byte, name string) []byte {
	return append([]byte{kind, byte(len(name) >> 8), byte(len(name))}, name...)
}

// made is what should be written of a request, be it Good or not.
func made(a ask.Ask) []byte {
	b := ahead(byte(a.Kind), a.Name)
	if a.Kind != 1 {
		return append(append(b, numbers(a.From, a.To)...), byte(a.Want))
	}
	b = append(b, byte(len(a.Samples)))
	for _, s := range a.Samples {
		b = append(b, numbers(s.T, s.V)...)
	}
	return b
}

// holds holds what becomes of a Good request: it is written as it should be, and read
// back; what was read is written alike; without its last bytes, however many, there is
// more to come, and with one more it has no form.
func holds(t *testing.T, a ask.Ask) {
	t.Helper()
	want := made(a)
	if !ask.Good(a) || !ask.GoodName(a.Name) {
		t.Fatalf("Good of %v: false", a)
	}
	b, e := ask.Put(a)
	if e != api.OK || !bytes.Equal(b, want) {
		t.Fatalf("Put of %v: %x, %d, not %x", a, b, e, want)
	}
	g, e := ask.Get(want)
	if e != api.OK || !alike(g, a) {
		t.Fatalf("Get of %x: %v, %d, not %v", want, g, e, a)
	}
	if again, e := ask.Put(g); e != api.OK || !bytes.Equal(again, want) {
		t.Fatalf("Put of what Get told of %x: %x, %d", want, again, e)
	}
	for n := range want {
		fails(t, want[:n], api.EMORE)
	}
	for _, x := range []byte{0, 1, 2, 97, 255} {
		fails(t, append(want[:len(want):len(want)], x), api.EFORM)
	}
}

// refused holds what becomes of a request that is not Good: there are no bytes of it.
func refused(t *testing.T, a ask.Ask) {
	t.Helper()
	if ask.Good(a) {
		t.Fatalf("Good of %.200v: true", a)
	}
	if b, e := ask.Put(a); e != api.EARG || len(b) != 0 {
		t.Fatalf("Put of %.200v: %.60x, %d", a, b, e)
	}
}

// fails holds what Get tells of bytes that are no request.
func fails(t *testing.T, b []byte, want api.Errno) {
	t.Helper()
	if a, e := ask.Get(b); e != want || !none(a) {
		t.Fatalf("Get of %d bytes, %.60x: %.200v, %d, not %d", len(b), b, a, e, want)
	}
}

func TestExample(t *testing.T) {
	b, e := ask.Put(query("a", 0, 0, 1))
	if len(b) != 21 || e != api.OK {
		t.Errorf("Put of a query of a: %d bytes, %d", len(b), e)
	}
}

// Written out: each part in its place, the highest byte of each number first.
func TestBytes(t *testing.T) {
	for _, c := range []struct {
		a    ask.Ask
		want string
	}{
		{push("a", ask.Sample{}), "\x01\x00\x01a\x01" + "\x00\x00\x00\x00\x00\x00\x00\x00" + "\x00\x00\x00\x00\x00\x00\x00\x00"},
		{push("a", ask.Sample{T: 1, V: 5}), "\x01\x00\x01a\x01" + "\x00\x00\x00\x00\x00\x00\x00\x01" + "\x00\x00\x00\x00\x00\x00\x00\x05"},
		{push("cpu_0", ask.Sample{T: 0x0102030405060708, V: -1}, ask.Sample{T: -2, V: 0x7172737475767778}),
			"\x01\x00\x05cpu_0\x02" + "\x01\x02\x03\x04\x05\x06\x07\x08" + "\xff\xff\xff\xff\xff\xff\xff\xff" + "\xff\xff\xff\xff\xff\xff\xff\xfe" + "qrstuvwx"},
		{push("b", ask.Sample{T: least, V: greatest}, ask.Sample{T: greatest, V: least}),
			"\x01\x00\x01b\x02" + "\x80\x00\x00\x00\x00\x00\x00\x00" + "\x7f\xff\xff\xff\xff\xff\xff\xff" + "\x7f\xff\xff\xff\xff\xff\xff\xff" + "\x80\x00\x00\x00\x00\x00\x00\x00"},
		{query("a", 0, 0, 1), "\x02\x00\x01a" + "\x00\x00\x00\x00\x00\x00\x00\x00" + "\x00\x00\x00\x00\x00\x00\x00\x00" + "\x01"},
		{query("z9_", 0x0102030405060708, -2, 31), "\x02\x00\x03z9_" + "\x01\x02\x03\x04\x05\x06\x07\x08" + "\xff\xff\xff\xff\xff\xff\xff\xfe" + "\x1f"},
		{query("_", greatest, least, 16), "\x02\x00\x01_" + "\x7f\xff\xff\xff\xff\xff\xff\xff" + "\x80\x00\x00\x00\x00\x00\x00\x00" + "\x10"},
	} {
		if b, e := ask.Put(c.a); string(b) != c.want || e != api.OK {
			t.Errorf("Put of %v: %x, %d, not %x", c.a, b, e, c.want)
		}
		if a, e := ask.Get([]byte(c.want)); !alike(a, c.a) || e != api.OK {
			t.Errorf("Get of %x: %v, %d, not %v", c.want, a, e, c.a)
		}
		holds(t, c.a)
	}
}

// Of one sample, of several, of just MaxPush; under Names of all lengths.
func TestPushes(t *testing.T) {
	for n := 1; n <= 16; n++ {
		for size := 1; size <= 16; size++ {
			holds(t, push(letters[n:n+size], samples(n)...))
		}
	}
	if b, _ := ask.Put(push(letters[:16], samples(16)...)); len(b) != 276 {
		t.Errorf("Put of the longest push: %d bytes", len(b))
	}
	holds(t, push("a", make([]ask.Sample, 16)...))
	holds(t, push("a", ask.Sample{T: 5, V: 1}, ask.Sample{T: 5, V: 1}, ask.Sample{T: 4, V: 0})) // no order is asked for
}

func TestQueries(t *testing.T) {
	for want := 1; want <= 31; want++ {
		for size := 1; size <= 16; size++ {
			holds(t, query(letters[(want+size)%21:][:size], int64(size), int64(want)*1000, want))
		}
	}
	a := query("a", 3, 4, 5)
	for _, l := range [][]ask.Sample{nil, {}, samples(4)[:0]} {
		a.Samples = l
		holds(t, a)
	}
}

// hard are numbers whose bytes differ at the ends.
func hard() []int64 {
	l := []int64{0, 1, -1, 2, -2, least, least + 1, greatest, greatest - 1, 127, 128, -128, -129, 1 << 31, -1 << 31, 1 << 32, -1 << 32, 0x0102030405060708, -0x0102030405060708}
	for i := range 63 {
		l = append(l, 1<<i, -1<<i)
	}
	return l
}

func TestNumbers(t *testing.T) {
	for _, x := range hard() {
		for _, y := range hard() {
			holds(t, push("t", ask.Sample{T: x, V: y}))
			holds(t, query("t", x, y, 9))
		}
		holds(t, push("t", ask.Sample{T: x, V: x}, ask.Sample{T: -x, V: 1}, ask.Sample{T: 2, V: x}))
	}
}

// Each byte alone, and at each place of a Name of each length.
func TestNameBytes(t *testing.T) {
	for c := range 256 {
		good := strings.IndexByte(letters, byte(c)) >= 0
		for size := 1; size <= 16; size++ {
			for at := range size {
				b := []byte("abcdefghijklmnop"[:size])
				b[at] = byte(c)
				name(t, string(b), good)
			}
		}
	}
}

// name holds what becomes of a Name, in all calls.
func name(t *testing.T, s string, good bool) {
	t.Helper()
	if ask.GoodName(s) != good {
		t.Fatalf("GoodName of %.40q: %v", s, !good)
	}
	for _, a := range []ask.Ask{push(s, ask.Sample{T: 1, V: 2}), query(s, 1, 2, 3)} {
		if ask.Good(a) != good {
			t.Fatalf("Good of Name %.40q, Kind %d: %v", s, a.Kind, !good)
		}
		if !good {
			refused(t, a)
		}
		if len(s) > 65535 {
			continue
		}
		want := api.EFORM
		if good {
			want = api.OK
		}
		if g, e := ask.Get(made(a)); e != want || good && !alike(g, a) || !good && !none(g) {
			t.Fatalf("Get of Name %.40q, Kind %d: %.200v, %d", s, a.Kind, g, e)
		}
	}
}

func TestNameLengths(t *testing.T) {
	for _, c := range letters {
		for n := range 300 {
			name(t, strings.Repeat(string(c), n), 1 <= n && n <= 16)
		}
	}
	for _, n := range []int{1 << 10, 65535, 65536, 65537, 65536 + 3, 1 << 20, 1 << 24} {
		name(t, strings.Repeat("a", n), false)
	}
	// Fewer runes than bytes, and letters that are small ones elsewhere.
	for _, s := range []string{"é", "aé", "ß", "ａ", "а", "٣", "\u0131", "ab\xc3", "\xe2\x82", " a", "a ", "a\n", "a\x00", "\x00", "A", "aB", "a-b", "a.b", "a/b", "-1", "+", "a'"} {
		name(t, s, false)
	}
	for _, s := range []string{"0", "_", "__", "007", "9a", "_a_", "a", "z", "9", "az09_"} {
		name(t, s, true)
	}
}

func TestRefusedKinds(t *testing.T) {
	for _, kind := range []int{0, 3, 4, 5, 97, 128, 254, 255, 256, 257, 258, 512 + 1, 512 + 2, 1<<32 + 1, 1<<32 + 2, -1, -2, -254, -255, math.MaxInt, math.MinInt, math.MinInt + 1, math.MinInt + 2} {
		for _, a := range []ask.Ask{{}, push("a", samples(1)...), push("a"), query("a", 1, 2, 3), query("a", 0, 0, 0), push("", samples(1)...)} {
			a.Kind = kind
			refused(t, a)
		}
	}
	refused(t, ask.Ask{Kind: 1})
	refused(t, ask.Ask{Kind: 2})
}

func TestRefusedPushes(t *testing.T) {
	refused(t, push("a"))
	refused(t, push("a", samples(1)[:0]...))
	for _, n := range []int{17, 18, 32, 255, 256, 257, 256 + 16, 512 + 1, 65536 + 1, 1 << 16, 1 << 20} {
		refused(t, push("a", make([]ask.Sample, n)...))
	}
	for _, x := range hard() {
		a, b, c := push("a", samples(2)...), push("a", samples(2)...), push("a", samples(2)...)
		a.From, b.To, c.Want = x, x, int(x)
		for _, a := range []ask.Ask{a, b, c} {
			if x != 0 {
				refused(t, a)
			} else {
				holds(t, a)
			}
		}
		if x != 0 {
			a.To, b.Want, c.From = -x, -int(x), -x // what one is, another doesn't make good
			refused(t, a)
			refused(t, b)
			refused(t, c)
		}
	}
	refused(t, ask.Ask{Kind: 1, Name: "a", From: 1, To: 2, Want: 3})
	refused(t, ask.Ask{Kind: 1, Name: "a", Samples: samples(1), From: 1, To: 2, Want: 3})
}

func TestRefusedQueries(t *testing.T) {
	for _, n := range []int{1, 2, 16, 17, 255, 256, 65536} {
		a := query("a", 1, 2, 3)
		a.Samples = make([]ask.Sample, n)
		refused(t, a)
	}
	for want := 32; want < 1100; want++ {
		refused(t, query("a", 1, 2, want))
		refused(t, query("a", 1, 2, -want))
	}
	for want := -31; want <= 0; want++ {
		refused(t, query("a", 1, 2, want))
	}
	for _, want := range []int{1<<16 + 1, 1<<32 + 1, 1<<32 + 31, math.MaxInt, math.MinInt, math.MinInt + 1, math.MinInt + 31} {
		refused(t, query("a", 1, 2, want))
	}
}

func TestGetOfNothing(t *testing.T) {
	for _, b := range [][]byte{nil, {}, make([]byte, 0, 40), []byte("\x02\x00\x01a")[:0]} {
		fails(t, b, api.EMORE)
	}
}

// A Kind that is none, whatever comes behind it, or nothing.
func TestGetOfKinds(t *testing.T) {
	for kind := range 256 {
		want := api.EFORM
		if kind == 1 || kind == 2 {
			want = api.EMORE
		}
		for _, b := range []string{"", "\x00", "\x00\x01", "\x00\x01a", "\x00\x01a\x01", "\x00\x01a\x01\x00\x00\x00"} {
			fails(t, append([]byte{byte(kind)}, b...), want)
		}
		if kind == 1 || kind == 2 {
			continue
		}
		for _, a := range []ask.Ask{push("a", samples(1)...), push("a", samples(16)...), query("a", 1, 2, 3)} {
			b := made(a)
			b[0] = byte(kind)
			fails(t, b, api.EFORM)
			fails(t, append(b, 0), api.EFORM)
		}
	}
}

// A Name that is too long is told by its number alone; of one that is not Good first all
// must be there.
func TestGetOfNames(t *testing.T) {
	for _, kind := range []byte{1, 2} {
		for n := range 65536 {
			want := api.EMORE
			if n > 16 {
				want = api.EFORM
			}
			fails(t, []byte{kind, byte(n >> 8), byte(n)}, want)
		}
		for n := 17; n < 70; n++ {
			b := ahead(kind, strings.Repeat("a", n))
			for to := 3; to <= len(b); to++ {
				fails(t, b[:to], api.EFORM)
			}
		}
	}
	for _, s := range []string{"", "A", "a b", "\xff", "a\x00", "\x00", "abcdefghijklmno-", "é"} {
		for _, a := range []ask.Ask{push(s, samples(1)...), push(s, samples(16)...), query(s, 1, 2, 31)} {
			b := made(a)
			for n := range b {
				fails(t, b[:n], api.EMORE)
			}
			fails(t, b, api.EFORM)
			fails(t, append(b, 0), api.EFORM)
		}
	}
}

// Each number of samples, and just as many, fewer, more behind it.
func TestGetOfSamples(t *testing.T) {
	all := bytes.Repeat(numbers(5, -5), 257)
	for n := range 256 {
		b := append(ahead(1, "a"), byte(n))
		whole := len(b) + 16*n
		b = append(b, all...)
		if n > 0 {
			fails(t, b[:5], api.EMORE)
			fails(t, b[:whole-16], api.EMORE)
			fails(t, b[:whole-8], api.EMORE)
			fails(t, b[:whole-1], api.EMORE)
		}
		a, e := ask.Get(b[:whole])
		if 1 <= n && n <= 16 {
			if want := push("a", slices.Repeat([]ask.Sample{{T: 5, V: -5}}, n)...); e != api.OK || !alike(a, want) {
				t.Fatalf("Get of %d samples: %v, %d", n, a, e)
			}
		} else {
			fails(t, b[:whole], api.EFORM)
		}
		for _, more := range []int{1, 8, 15, 16, 17} {
			fails(t, b[:whole+more], api.EFORM)
		}
	}
}

// Each byte of a Want.
func TestGetOfWants(t *testing.T) {
	for want := range 256 {
		b := append(append(ahead(2, "a"), numbers(7, -7)...), byte(want))
		if 1 <= want && want <= 31 {
			if a, e := ask.Get(b); e != api.OK || !alike(a, query("a", 7, -7, want)) {
				t.Fatalf("Get of Want %d: %v, %d", want, a, e)
			}
		} else {
			fails(t, b, api.EFORM)
		}
		fails(t, b[:len(b)-1], api.EMORE)
		fails(t, append(b, 1), api.EFORM)
	}
}

// Two requests, one behind the other, are none; and so is one with very many bytes behind.
func TestGetOfTooMany(t *testing.T) {
	for _, a := range []ask.Ask{push("a", samples(1)...), push("bc", samples(16)...), query("a", 1, 2, 3)} {
		b := made(a)
		fails(t, slices.Concat(b, b), api.EFORM)
		fails(t, slices.Concat(b, make([]byte, 1<<24)), api.EFORM)
	}
	fails(t, make([]byte, 1<<24), api.EFORM)
	fails(t, bytes.Repeat([]byte{1}, 1<<24), api.EFORM)
	fails(t, slices.Concat([]byte{1, 0, 1, 'a', 255}, make([]byte, 255*16)), api.EFORM)
}

// read is what should be told of any bytes, by the chapter's words.
func read(b []byte) (ask.Ask, api.Errno) {
	if len(b) == 0 {
		return ask.Ask{}, api.EMORE
	}
	if b[0] != 1 && b[0] != 2 {
		return ask.Ask{}, api.EFORM
	}
	if len(b) < 3 {
		return ask.Ask{}, api.EMORE
	}
	n := int(b[1])*256 + int(b[2])
	if n > 16 {
		return ask.Ask{}, api.EFORM
	}
	if len(b) < 3+n+1 {
		return ask.Ask{}, api.EMORE
	}
	a, rest := ask.Ask{Kind: int(b[0]), Name: string(b[3 : 3+n])}, b[3+n:]
	var more int
	if a.Kind == 1 {
		more = len(rest) - 1 - 16*int(rest[0])
		for at := 1; at+16 <= len(rest); at += 16 {
			a.Samples = append(a.Samples, ask.Sample{T: int64(binary.BigEndian.Uint64(rest[at:])), V: int64(binary.BigEndian.Uint64(rest[at+8:]))})
		}
	} else if more = len(rest) - 17; more >= 0 {
		a.From, a.To, a.Want = int64(binary.BigEndian.Uint64(rest)), int64(binary.BigEndian.Uint64(rest[8:])), int(rest[16])
	}
	good := n > 0 && (a.Kind == 1 && 0 < len(a.Samples) && len(a.Samples) < 17 || a.Kind == 2 && 0 < a.Want && a.Want < 32)
	for _, c := range []byte(a.Name) {
		good = good && strings.IndexByte(letters, c) >= 0
	}
	if more < 0 {
		return ask.Ask{}, api.EMORE
	}
	if more > 0 || !good {
		return ask.Ask{}, api.EFORM
	}
	return a, api.OK
}

// agrees holds Get of any bytes against read; if it is a request, it makes just these bytes.
func agrees(t *testing.T, b []byte) {
	t.Helper()
	want, wantErr := read(b)
	a, e := ask.Get(b)
	if e != wantErr || !alike(a, want) {
		t.Fatalf("Get of %x: %v, %d, not %v, %d", b, a, e, want, wantErr)
	}
	if e != api.OK {
		return
	}
	if again, e := ask.Put(a); e != api.OK || !bytes.Equal(again, b) || !ask.Good(a) {
		t.Fatalf("Put of what Get told of %x: %x, %d", b, again, e)
	}
}

// Each one byte of requests made another, and all short texts of a few bytes.
func TestGetOfOneByteMadeAnother(t *testing.T) {
	for _, a := range []ask.Ask{push("a", samples(1)...), push("cpu_0", samples(3)...), push(letters[:16], samples(16)...), query("b", 1, -1, 31), query(letters[20:36], least, greatest, 16)} {
		b := made(a)
		for at := range b {
			was := b[at]
			for x := range 256 {
				b[at] = byte(x)
				agrees(t, b)
			}
			b[at] = was
		}
	}
	few := []byte{0, 1, 2, 3, 16, 17, 'a', 255}
	var walk func(b []byte, left int)
	walk = func(b []byte, left int) {
		agrees(t, b)
		if left == 0 {
			return
		}
		for _, x := range few {
			walk(append(b[:len(b):len(b)], x), left-1)
		}
	}
	walk(nil, 5)
}

// Requests with some bytes turned, cut off or laid behind.
func TestGetOfAnyBytes(t *testing.T) {
	x := uint32(1)
	next := func(n int) int {
		x = x*1664525 + 1013904223
		return int(x>>8) % n
	}
	for range 60_000 {
		n := next(19)
		a := push(strings.Repeat(letters[next(37):][:1], next(18)), samples(n)...)
		if next(2) == 0 {
			a = query(strings.Repeat("q", next(18)), int64(next(1<<20))-1<<19, int64(next(1<<20))<<40, next(34))
		}
		b := made(a)
		switch next(4) {
		case 0:
			b[next(len(b))] ^= 1 << next(8)
		case 1:
			b = b[:next(len(b))]
		case 2:
			b = append(b, make([]byte, next(20))...)
		}
		agrees(t, b)
	}
}

// It is as pack writes and reads it.
func TestAsPackTells(t *testing.T) {
	b, _ := pack.Bytes(pack.U8(nil, 2), []byte("mem"))
	b = pack.U8(pack.U64(pack.U64(b, 1<<63), 1<<64-1), 17)
	if a, e := ask.Get(b); e != api.OK || !alike(a, query("mem", least, -1, 17)) {
		t.Errorf("Get of a query by pack: %v, %d", a, e)
	}
	b, _ = ask.Put(push("mem", ask.Sample{T: 9, V: least}))
	r := pack.New(b)
	if r.U8() != 1 || string(r.Bytes(16)) != "mem" || r.U8() != 1 || r.U64() != 9 || r.U64() != 1<<63 || r.Left() != 0 || r.Err() != api.OK {
		t.Errorf("Put of a push, by pack: %x", b)
	}
}

// What was handed to Good, Put or Get is as it was, spare room included, refused or not.
func TestHandedInIsNotChanged(t *testing.T) {
	for n := range 20 {
		room := samples(24)
		a := push("a", room[:n]...)
		ask.Good(a)
		ask.Put(a)
		a.Kind = 2
		ask.Good(a)
		ask.Put(a)
		if !slices.Equal(room, samples(24)) {
			t.Fatalf("a request of %d samples was changed: %v", n, room)
		}
	}
	for _, a := range []ask.Ask{push("abc", samples(16)...), push("abc", samples(1)...), query("abc", 5, 6, 7), push("A", samples(2)...), query("abc", 5, 6, 32), push("abc")} {
		b := append(made(a), "behind"...)
		room := slices.Clone(b)
		for n := range b {
			ask.Get(room[:n])
		}
		if !bytes.Equal(room, b) {
			t.Fatalf("Get changed what it was handed: %x, not %x", room, b)
		}
	}
}

// What was told stays as it was when what was handed in is written over, and may itself
// be written over, spare room included.
func TestPutIsNewMemory(t *testing.T) {
	for n := range 17 {
		l := samples(16)
		a := push("abc", l[:n]...)
		if n == 0 {
			a = query("abc", 5, 6, 7)
		}
		want := made(a)
		first, _ := ask.Put(a)
		second, _ := ask.Put(a)
		overwrite(first)
		if !bytes.Equal(second, want) || !slices.Equal(l, samples(16)) {
			t.Fatalf("Put of %v shares memory: %x", a, second)
		}
		clear(l)
		if !bytes.Equal(second, want) {
			t.Fatalf("Put of %d samples kept them", n)
		}
		copy(l, samples(16))
		if third, _ := ask.Put(a); !bytes.Equal(third, want) {
			t.Fatalf("Put of %v, after an answer was written over: %x", a, third)
		}
	}
}

// overwrite writes all over an answer, spare room included.
func overwrite(b []byte) {
	b = b[:cap(b)]
	for k := range b {
		b[k] = 99
	}
}

func TestGetIsNewMemory(t *testing.T) {
	for n := range 17 {
		want := push("abc", samples(n)...)
		if n == 0 {
			want = query("abc", 5, 6, 7)
		}
		b := append(made(want), "behind"...)
		in := b[:len(b)-6]
		first, _ := ask.Get(in)
		second, _ := ask.Get(in)
		all := first.Samples[:cap(first.Samples)]
		for k := range all {
			all[k] = ask.Sample{T: 99, V: 99}
		}
		if !alike(second, want) || !bytes.Equal(b, append(made(want), "behind"...)) {
			t.Fatalf("Get of %d samples shares memory: %v", n, second)
		}
		overwrite(b)
		if !alike(second, want) {
			t.Fatalf("Get of %d samples kept what it was handed: %v", n, second)
		}
	}
}

func TestVeryMany(t *testing.T) {
	if ask.GoodName(strings.Repeat("a", 1<<27)) {
		t.Error("GoodName of a very long one: true")
	}
	refused(t, push("a", make([]ask.Sample, 1<<22)...))
	refused(t, query(strings.Repeat("a", 1<<27), 1, 2, 3))
	fails(t, append([]byte{2, 0, 1, 'a'}, make([]byte, 1<<26)...), api.EFORM)
}

func TestSideBySide(t *testing.T) {
	shared := samples(16)
	in := made(push("shared", shared...))
	wrong := make([]bool, 8)
	var all sync.WaitGroup
	for i := range wrong {
		all.Go(func() {
			for k := range 300 {
				a := push("shared", shared[:1+(i+k)%16]...)
				b, e := ask.Put(a)
				g, f := ask.Get(b)
				h, d := ask.Get(in)
				if e != api.OK || f != api.OK || d != api.OK || !alike(g, a) || !alike(h, push("shared", shared...)) {
					wrong[i] = true
				}
			}
		})
	}
	all.Wait()
	if slices.Contains(wrong, true) {
		t.Errorf("workers that were told another thing: %v", wrong)
	}
}

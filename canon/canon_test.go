package canon_test

import (
	"encoding/binary"
	"fmt"
	"math"
	"slices"
	"strings"
	"sync"
	"testing"
	"unsafe"

	"warrener/api"
	"warrener/ask"
	"warrener/canon"
	"warrener/pack"
)

const (
	least    = math.MinInt64
	greatest = math.MaxInt64
	letters  = "abcdefghijklmnopqrstuvwxyz0123456789_"
)

func push(name string, n int) ask.Ask {
	return ask.Ask{Kind: 1, Name: name, Samples: samples(n)}
}

func query(name string, from, to int64, want int) ask.Ask {
	return ask.Ask{Kind: 2, Name: name, From: from, To: to, Want: want}
}

func samples(n int) []ask.Sample {
	l := make([]ask.Sample, n)
	for i := range l {
		l[i] = ask.Sample{T: int64(i) + 1, V: -int64(i) - 7}
	}
	return l
}

func alike(a, b ask.Ask) bool {
	return a.Kind == b.Kind && a.Name == b.Name && slices.Equal(a.Samples, b.Samples) && a.From == b.From && a.To == b.To && a.Want == b.Want
}

// tell tells a request in few words, however long it is.
func tell(a ask.Ask) string {
	return fmt.Sprintf("{%d %q, %d samples, %d to %d, %d}", a.Kind, a.Name[:min(len(a.Name), 40)], len(a.Samples), a.From, a.To, a.Want)
}

// text is what a query's Key should be, by another writer than the program's own.
func text(a ask.Ask) string {
	b := append([]byte{2, 0, byte(len(a.Name))}, a.Name...)
	b = binary.BigEndian.AppendUint64(b, uint64(a.From))
	b = binary.BigEndian.AppendUint64(b, uint64(a.To))
	return string(append(b, byte(a.Want)))
}

// holds holds what becomes of a Good query that should be said as it is, but From to To.
func holds(t *testing.T, a ask.Ask, from, to int64) {
	t.Helper()
	want := query(a.Name, from, to, a.Want)
	q, e := canon.Of(a)
	if e != api.OK || !alike(q, want) {
		t.Fatalf("Of of %v: %v, %d, not %v", a, q, e, want)
	}
	if again, e := canon.Of(q); e != api.OK || !alike(again, want) {
		t.Fatalf("Of of what Of told of %v: %v, %d, not %v", a, again, e, want)
	}
	k, e := canon.Key(a)
	if e != api.OK || k != text(want) || len(k) != 20+len(a.Name) {
		t.Fatalf("Key of %v: %x, %d, not %x", a, k, e, text(want))
	}
	if p, e := ask.Put(q); e != api.OK || k != string(p) {
		t.Fatalf("Key of %v: %x, but Put of Of: %x, %d", a, k, p, e)
	}
	if again, e := canon.Key(q); e != api.OK || again != k {
		t.Fatalf("Key of what Of told of %v: %x, %d, not %x", a, again, e, k)
	}
	if !canon.Same(a, a) || !canon.Same(a, q) || !canon.Same(q, a) || !canon.Same(q, q) {
		t.Fatalf("Same of %v with itself or with what Of told of it: false", a)
	}
}

// asIs holds a query that is said as it stands.
func asIs(t *testing.T, a ask.Ask) {
	t.Helper()
	holds(t, a, a.From, a.To)
}

// same holds Same of two, either way round.
func same(t *testing.T, a, b ask.Ask, want bool) {
	t.Helper()
	if canon.Same(a, b) != want || canon.Same(b, a) != want {
		t.Fatalf("Same of %s and %s: not %v both ways", tell(a), tell(b), want)
	}
}

// refused holds what becomes of what is no Good query: no request, no text, the same as nothing.
func refused(t *testing.T, a ask.Ask) {
	t.Helper()
	q, e := canon.Of(a)
	if e != api.EARG || !alike(q, ask.Ask{}) {
		t.Fatalf("Of of %s: %s, %d", tell(a), tell(q), e)
	}
	if k, e := canon.Key(a); e != api.EARG || k != "" {
		t.Fatalf("Key of %s: %.60x, %d", tell(a), k, e)
	}
	same(t, a, a, false)
	same(t, a, query("a", 1, 2, 3), false)
	same(t, a, query("a", 1, 0, 1), false)
	same(t, a, push("a", 1), false)
	same(t, a, ask.Ask{}, false)
}

func TestExample(t *testing.T) {
	same(t, query("a", 5, 3, 1), query("a", 9, 2, 1), true)
}

// Written out: what is told of a query, and its text.
func TestWrittenOut(t *testing.T) {
	for _, c := range []struct {
		a, want ask.Ask
		key     string
	}{
		{query("a", 1, 5, 3), query("a", 1, 5, 3), "\x02\x00\x01a" + "\x00\x00\x00\x00\x00\x00\x00\x01" + "\x00\x00\x00\x00\x00\x00\x00\x05" + "\x03"},
		{query("a", 5, 5, 3), query("a", 5, 5, 3), "\x02\x00\x01a" + "\x00\x00\x00\x00\x00\x00\x00\x05" + "\x00\x00\x00\x00\x00\x00\x00\x05" + "\x03"},
		{query("a", 5, 3, 3), query("a", 1, 0, 3), "\x02\x00\x01a" + "\x00\x00\x00\x00\x00\x00\x00\x01" + "\x00\x00\x00\x00\x00\x00\x00\x00" + "\x03"},
		{query("cpu_0", 0x0102030405060708, -2, 31), query("cpu_0", 1, 0, 31), "\x02\x00\x05cpu_0" + "\x00\x00\x00\x00\x00\x00\x00\x01" + "\x00\x00\x00\x00\x00\x00\x00\x00" + "\x1f"},
		{query("cpu_0", -2, 0x0102030405060708, 16), query("cpu_0", -2, 0x0102030405060708, 16), "\x02\x00\x05cpu_0" + "\xff\xff\xff\xff\xff\xff\xff\xfe" + "\x01\x02\x03\x04\x05\x06\x07\x08" + "\x10"},
	} {
		if q, e := canon.Of(c.a); e != api.OK || !alike(q, c.want) {
			t.Errorf("Of of %v: %v, %d, not %v", c.a, q, e, c.want)
		}
		if k, e := canon.Key(c.a); e != api.OK || k != c.key {
			t.Errorf("Key of %v: %x, %d, not %x", c.a, k, e, c.key)
		}
	}
}

func TestFromNotAboveTo(t *testing.T) {
	for _, c := range []struct{ from, to int64 }{{1, 5}, {0, 0}, {5, 5}, {4, 5}, {-5, 5}, {-5, -4}, {-5, -5}, {0, 1}, {-1, 0}, {1, 1}, {least, greatest}, {least, least}, {greatest, greatest}, {least, least + 1}, {greatest - 1, greatest}, {least, 0}, {0, greatest}, {1, greatest}, {least, -1}} {
		asIs(t, query("a", c.from, c.to, 3))
	}
}

func TestFromAboveTo(t *testing.T) {
	for _, c := range []struct{ from, to int64 }{{1, 0}, {5, 4}, {5, 3}, {9, 2}, {2, 0}, {2, 1}, {0, -1}, {1, -1}, {-4, -5}, {5, -5}, {greatest, least}, {greatest, greatest - 1}, {least + 1, least}, {0, least}, {1, least}, {greatest, 0}, {greatest, 1}, {greatest, -1}, {1 << 32, 0}, {1<<32 + 1, 1 << 32}} {
		holds(t, query("a", c.from, c.to, 3), 1, 0)
	}
}

// hard are numbers about the ends, and such as have their bytes alike in part.
func hard() []int64 {
	l := []int64{0, 1, -1, 2, -2, least, least + 1, greatest, greatest - 1, 127, 128, -128, -129, 0x0102030405060708, -0x0102030405060708}
	for i := range 63 {
		l = append(l, 1<<i, -1<<i, 1<<i+1)
	}
	return l
}

func TestNumbers(t *testing.T) {
	for _, from := range hard() {
		for _, to := range hard() {
			a := query("t", from, to, 9)
			if from > to {
				holds(t, a, 1, 0)
			} else {
				asIs(t, a)
			}
		}
		holds(t, query("t", from, from, 9), from, from)
		if from != least {
			holds(t, query("t", from, from-1, 9), 1, 0)
		}
		if from != greatest {
			asIs(t, query("t", from, from+1, 9))
		}
	}
}

func TestWants(t *testing.T) {
	for want := 1; want <= 31; want++ {
		asIs(t, query("a", 1, 5, want))
		asIs(t, query("a", 5, 5, want))
		holds(t, query("a", 5, 4, want), 1, 0)
		for other := 1; other <= 31; other++ {
			same(t, query("a", 1, 5, want), query("a", 1, 5, other), want == other)
			same(t, query("a", 5, 4, want), query("a", 9, 2, other), want == other)
		}
	}
}

func TestNames(t *testing.T) {
	for size := 1; size <= api.MaxName; size++ {
		for at := range len(letters) - size + 1 {
			s := letters[at:][:size]
			asIs(t, query(s, -3, 7, 31))
			holds(t, query(s, 7, -3, 31), 1, 0)
		}
	}
	for i := range letters {
		for k := range letters {
			for _, s := range []string{"", "abcdefgh", "abcdefghijklmno"} { // short and long ones, that differ at the ends
				one, two := letters[i:][:1], letters[k:][:1]
				same(t, query(one+s, 1, 2, 3), query(two+s, 1, 2, 3), i == k)
				same(t, query(s+one, 4, 2, 3), query(s+two, 5, 2, 3), i == k)
			}
		}
	}
	for size := 1; size <= api.MaxName; size++ {
		for other := 1; other <= api.MaxName; other++ {
			same(t, query(strings.Repeat("a", size), 1, 2, 3), query(strings.Repeat("a", other), 1, 2, 3), size == other)
			same(t, query(strings.Repeat("a", size), 3, 2, 3), query(strings.Repeat("a", other), 2, 1, 3), size == other)
		}
	}
}

// A list that is empty is none: it is a Good query still.
func TestEmptySamples(t *testing.T) {
	for _, l := range [][]ask.Sample{nil, {}, samples(4)[:0]} {
		a := query("a", 1, 5, 3)
		a.Samples = l
		asIs(t, a)
		same(t, a, query("a", 1, 5, 3), true)
		a.From = 6
		holds(t, a, 1, 0)
		same(t, a, query("a", 9, 2, 3), true)
	}
}

// few are queries of each pair of a few numbers, of two Names and two Wants.
func few() []ask.Ask {
	var l []ask.Ask
	for _, from := range []int64{least, least + 1, -1, 0, 1, 2, greatest - 1, greatest} {
		for _, to := range []int64{least, least + 1, -1, 0, 1, 2, greatest - 1, greatest} {
			l = append(l, query("a", from, to, 1), query("a", from, to, 2), query("b", from, to, 1), query("ab", from, to, 2))
		}
	}
	return l
}

// All pairs of these: the same just if both ask for nothing's time, or for one time, and
// all else is alike; and their Keys tell so too.
func TestSame(t *testing.T) {
	for _, a := range few() {
		for _, b := range few() {
			time := a.From == b.From && a.To == b.To || a.From > a.To && b.From > b.To
			want := time && a.Name == b.Name && a.Want == b.Want
			same(t, a, b, want)
			k, _ := canon.Key(a)
			l, _ := canon.Key(b)
			if (k == l) != want {
				t.Fatalf("Keys of %v and %v: %x, %x", a, b, k, l)
			}
		}
	}
}

// Each field alone makes it another one.
func TestSameOfOneFieldMadeAnother(t *testing.T) {
	a := query("abc", 3, 8, 5)
	same(t, a, query("abc", 3, 8, 5), true)
	for _, b := range []ask.Ask{query("abd", 3, 8, 5), query("ab", 3, 8, 5), query("abcc", 3, 8, 5), query("abc", 2, 8, 5), query("abc", 8, 8, 5), query("abc", 9, 8, 5), query("abc", 3, 9, 5), query("abc", 3, 3, 5), query("abc", 3, 2, 5), query("abc", 8, 3, 5), query("abc", 3, 8, 4), query("abc", 3, 8, 1), query("abc", 3, 8, 31), query("abc", 1, 0, 5), query("abc", 0, 0, 5)} {
		same(t, a, b, false)
	}
	for i := range 64 {
		same(t, a, query("abc", 3^1<<i, 8, 5), false)
		same(t, a, query("abc", 3, 8^1<<i, 5), false)
	}
}

// times are From and To in each order: none of them makes good what is not.
var times = [4][2]int64{{0, 0}, {1, 2}, {1, 0}, {9, 2}}

func TestRefusedKinds(t *testing.T) {
	for _, kind := range []int{0, 1, 3, 4, 5, 97, 128, 254, 255, 256, 257, 258, 512 + 2, 1<<16 + 2, 1<<32 + 1, 1<<32 + 2, -1, -2, -254, math.MaxInt, math.MinInt, math.MinInt + 2} {
		for _, c := range times {
			a := query("a", c[0], c[1], 3)
			a.Kind = kind
			refused(t, a)
			same(t, a, query("a", c[0], c[1], 3), false)
			a.Want = 0
			refused(t, a)
		}
	}
	refused(t, ask.Ask{})
}

func TestRefusedPushes(t *testing.T) {
	for n := 1; n <= api.MaxPush; n++ {
		if !ask.Good(push("a", n)) {
			t.Fatalf("a push of %d samples is not Good", n)
		}
		refused(t, push("a", n))
		same(t, push("a", n), push("a", n), false)
	}
	for _, a := range []ask.Ask{push("a", 0), push("a", 17), push("", 1), {Kind: 1, Name: "a", Samples: samples(1), Want: 1}, {Kind: 1, Name: "a", Samples: samples(1), From: 3, To: 2}} {
		refused(t, a)
	}
}

func TestRefusedNames(t *testing.T) {
	l := []string{"", "abcdefghijklmnopq", strings.Repeat("a", 32), strings.Repeat("a", 256+1), strings.Repeat("a", 65536), strings.Repeat("a", 65536+1), "é", "ａ", " a", "a ", "a-b", "aB", "a\x00", "ab\xc3"}
	for c := range 256 {
		if strings.IndexByte(letters, byte(c)) < 0 {
			s := string([]byte{byte(c)})
			l = append(l, s, "a"+s, s+"a", "abcdefghijklmno"+s)
		}
	}
	for _, s := range l {
		for _, c := range times {
			refused(t, query(s, c[0], c[1], 3))
		}
	}
}

func TestRefusedWants(t *testing.T) {
	l := []int{1<<16 + 1, 1<<32 + 1, 1<<32 + 31, math.MaxInt, math.MinInt, math.MinInt + 1, math.MinInt + 31}
	for want := range 600 {
		l = append(l, -want, want+32)
	}
	for _, want := range l {
		for _, c := range times {
			refused(t, query("a", c[0], c[1], want))
			same(t, query("a", c[0], c[1], want), query("a", c[0], c[1], want&31), false)
		}
	}
}

func TestRefusedSamples(t *testing.T) {
	for _, n := range []int{1, 2, 3, 16, 17, 255, 256, 257, 65536} {
		for _, c := range times {
			a := query("a", c[0], c[1], 3)
			a.Samples = make([]ask.Sample, n)
			refused(t, a)
			same(t, a, query("a", c[0], c[1], 3), false)
		}
	}
}

// Two that are refused are not the same, whatever they are.
func TestRefusedSideBySide(t *testing.T) {
	with := query("a", 1, 2, 3)
	with.Samples = samples(1)
	l := []ask.Ask{{}, {Kind: 2}, {Kind: 1}, push("a", 1), push("a", 2), query("", 1, 2, 3), query("a", 1, 2, 0), query("a", 1, 2, 32), query("A", 1, 2, 3), query("a", 9, 2, 0), with}
	for _, a := range l {
		for _, b := range l {
			same(t, a, b, false)
		}
		for _, b := range few() {
			same(t, a, b, false)
		}
	}
}

// A Key is read back by ask and by pack as what Of told.
func TestKeyIsRead(t *testing.T) {
	for _, a := range few() {
		q, _ := canon.Of(a)
		k, _ := canon.Key(a)
		if g, e := ask.Get([]byte(k)); e != api.OK || !alike(g, q) {
			t.Fatalf("Get of the Key of %v: %v, %d, not %v", a, g, e, q)
		}
		r := pack.New([]byte(k))
		if r.U8() != 2 || string(r.Bytes(api.MaxName)) != q.Name || r.U64() != uint64(q.From) || r.U64() != uint64(q.To) || r.U8() != uint8(q.Want) || r.Left() != 0 || r.Err() != api.OK {
			t.Fatalf("the Key of %v, by pack: %x", a, k)
		}
	}
}

// What was handed in is as it was, spare room included, refused or not.
func TestHandedInIsNotChanged(t *testing.T) {
	for n := range 20 {
		for _, a := range []ask.Ask{query("abc", 5, 6, 7), query("abc", 6, 5, 7), push("abc", 0), {}} {
			room := samples(24)
			a.Samples = room[:n]
			was := a
			was.Samples = samples(n)
			canon.Of(a)
			canon.Key(a)
			canon.Same(a, a)
			canon.Same(a, query("abc", 5, 6, 7))
			canon.Same(query("abc", 5, 6, 7), a)
			if !slices.Equal(room, samples(24)) || !alike(a, was) {
				t.Fatalf("a request of %d samples was changed: %v", n, room)
			}
		}
	}
}

// What Of told has no room that was handed in, and none of another answer; nor has its Name.
func TestOfIsNewMemory(t *testing.T) {
	for _, a := range []ask.Ask{query("abc", 5, 6, 7), query("abc", 6, 5, 7)} {
		room := samples(4)
		a.Samples = room[:0]
		first, _ := canon.Of(a)
		second, _ := canon.Of(a)
		written := first.Samples[:cap(first.Samples)]
		for i := range written {
			written[i] = ask.Sample{T: 99, V: 99}
		}
		if cap(second.Samples) > 0 && slices.Contains(second.Samples[:1], ask.Sample{T: 99, V: 99}) || !slices.Equal(room, samples(4)) {
			t.Fatalf("Of of %v shares memory: %v", a, room)
		}
		if unsafe.StringData(first.Name) == unsafe.StringData(a.Name) {
			t.Fatalf("Of of %v told the Name in the memory that was handed in", a)
		}
	}
}

func TestVeryMany(t *testing.T) {
	a := query("a", 1, 2, 3)
	a.Samples = make([]ask.Sample, 1<<22)
	refused(t, a)
	refused(t, query(strings.Repeat("a", 1<<27), 1, 2, 3))
}

func TestSideBySide(t *testing.T) {
	l := few()
	wrong := make([]bool, 8)
	var all sync.WaitGroup
	for i := range wrong {
		all.Go(func() {
			for k := range 3000 {
				a := l[(i*37+k)%len(l)]
				want := a
				if a.From > a.To {
					want.From, want.To = 1, 0
				}
				q, e := canon.Of(a)
				s, f := canon.Key(a)
				if e != api.OK || f != api.OK || !alike(q, want) || s != text(want) || !canon.Same(a, want) {
					wrong[i] = true
				}
			}
		})
	}
	all.Wait()
	if slices.Contains(wrong, true) {
		t.Errorf("workers that were told another thing: %v", wrong)
	}
}

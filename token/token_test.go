package token_test

import (
	"bytes"
	"crypto/hmac"
	"crypto/sha256"
	"encoding/hex"
	"math"
	"slices"
	"sync"
	"testing"

	"warrener/api"
	"warrener/mac"
	"warrener/pack"
	"warrener/token"
)

// head is how many bytes stand ahead of a body.
const head = 34

// pattern is n bytes, another row for each n.
func pattern(n int) []byte {
	b := make([]byte, n)
	x := uint32(n) + 1
	for i := range b {
		x = x*1664525 + 1013904223
		b[i] = byte(x >> 24)
	}
	return b
}

// made is what should be sealed, by another writer and another HMAC than the program's own.
func made(id int, key, body []byte) []byte {
	who := []byte{byte(id / 256), byte(id % 256)}
	h := hmac.New(sha256.New, key)
	h.Write(who)
	h.Write(body)
	return slices.Concat(who, h.Sum(nil), body)
}

// ids are those at the edges, each bit alone, and some whose bytes are unlike.
func ids() []int {
	l := []int{0, 1, 2, 7, 127, 128, 254, 255, 256, 257, 258, 511, 512, 513, 0x1234, 0x3412, 0x7fff, 0x8000, 0xfeff, 0xff00, 65533, 65534, 65535}
	for bit := range 16 {
		l = append(l, 1<<bit, 65535-1<<bit)
	}
	return l
}

// noIDs are numbers that are no ID, many of them one in their lowest two bytes.
func noIDs() []int {
	l := []int{math.MinInt, math.MinInt + 1, math.MinInt + 258, math.MinInt32, -1<<32 + 258, -65537, -65536, -65535, -65278, -32768, -257, -256, -3, -2, -1, 65536, 65537, 65794, 131071, 131072, 1 << 24, math.MaxInt32, 1 << 31, math.MaxUint32, 1 << 32, 1<<32 + 258, math.MaxInt - 65535, math.MaxInt - 1, math.MaxInt}
	for bit := 16; bit < 63; bit++ {
		l = append(l, 1<<bit, 1<<bit+258, -1<<bit, -1<<bit+258)
	}
	return l
}

// keys are of no byte, of few, and of as many as a block of the sum and about that. A
// key that is filled up with bytes 0 is alike, so none ends in one.
func keys() [][]byte {
	l := [][]byte{nil, {}, []byte("k"), []byte("key"), {255}}
	for _, n := range []int{2, 31, 32, 33, 63, 64, 65, 100, 128, 500} {
		l = append(l, append(pattern(n-1), 9))
	}
	return l
}

// bodies are of no byte, of one, and of many, and about the ends of the sum's blocks.
func bodies() [][]byte {
	l := [][]byte{nil, {}, {0}, {1}, {255}, []byte("hello"), make([]byte, 34)}
	for _, n := range []int{2, 16, 31, 32, 33, 34, 52, 53, 54, 61, 62, 63, 64, 65, 126, 255, 256, 400, 478, 512, 1000, 70000} {
		l = append(l, pattern(n))
	}
	return l
}

// opens holds what ID and Open tell of an envelope.
func opens(t *testing.T, b []byte, id int, key, body []byte) {
	t.Helper()
	if n, ok := token.ID(b); n != id || !ok {
		t.Fatalf("ID of %d bytes, %.40x: %d, %v, not %d", len(b), b, n, ok, id)
	}
	if p, e := token.Open(b, id, key); e != api.OK || !bytes.Equal(p, body) {
		t.Fatalf("Open of %d bytes, %.40x, by %d and %.20x: %d bytes, %.40x, %d, not %d bytes", len(b), b, id, key, len(p), p, e, len(body))
	}
}

// shut holds that there is no body for that ID and that key.
func shut(t *testing.T, b []byte, id int, key []byte, want api.Errno) {
	t.Helper()
	if p, e := token.Open(b, id, key); e != want || len(p) != 0 {
		t.Fatalf("Open of %d bytes, %.40x, by %d and %.20x: %.40x, %d, not %d", len(b), b, id, key, p, e, want)
	}
}

func TestExample(t *testing.T) {
	for _, body := range [][]byte{nil, {}, pattern(9)[:0]} {
		if b, e := token.Seal(1, []byte("k"), body); e != api.OK || len(b) != 34 {
			t.Errorf("Seal of an empty body: %d bytes, %d", len(b), e)
		}
	}
}

// Written out, so that no other writer is asked.
func TestKnown(t *testing.T) {
	for _, c := range []struct {
		id              int
		key, body, want string
	}{
		{0, "", "", "0000" + "b31825742c7dffdfdcea617f81eadcfb55e1f85f3a260abf40f38e6d00472c5a"},
		{7, "k", "", "0007" + "ab08393f4bf2f6b475630f544635ffe4be925a7d663ef109479dff995033bc12"},
		{258, "key", "hello", "0102" + "c57cddb3b211e1326ee21ff367a08fff8151a236aba0f81701d16a065e36b83e" + "68656c6c6f"},
		{65535, "Jefe", "x", "ffff" + "f92f3a54cc88c24724dae469ef1f26c99fb8e898f2cf4b94b4006d919053b22c" + "78"},
	} {
		b, e := token.Seal(c.id, []byte(c.key), []byte(c.body))
		if hex.EncodeToString(b) != c.want || e != api.OK {
			t.Errorf("Seal of %d, %q, %q: %x, %d, not %s", c.id, c.key, c.body, b, e, c.want)
		}
	}
}

// Each ID with each key and each body.
func TestSealAndOpen(t *testing.T) {
	for i, id := range ids() {
		for _, key := range keys() {
			for _, body := range bodies() {
				if len(body) > 1000 && i%8 != 0 {
					continue // they take long
				}
				b, e := token.Seal(id, key, body)
				want := made(id, key, body)
				if e != api.OK || !bytes.Equal(b, want) {
					t.Fatalf("Seal of %d, %x, %d bytes: %.60x, %d, not %.60x", id, key, len(body), b, e, want)
				}
				opens(t, want, id, key, body)
			}
		}
	}
}

func TestEveryID(t *testing.T) {
	key, body := []byte("key"), []byte("body")
	for id := range 65536 {
		b, e := token.Seal(id, key, body)
		if e != api.OK || !bytes.Equal(b, made(id, key, body)) {
			t.Fatalf("Seal of %d: %x, %d", id, b, e)
		}
		opens(t, b, id, key, body)
	}
}

func TestEveryLength(t *testing.T) {
	for n := range 700 {
		body, key := pattern(n), append(pattern(n/4), 1)
		b, e := token.Seal(n, key, body)
		if e != api.OK || !bytes.Equal(b, made(n, key, body)) {
			t.Fatalf("Seal of %d bytes: %.60x, %d", n, b, e)
		}
		opens(t, b, n, key, body)
	}
}

// It is as mac and pack tell.
func TestAsMacTells(t *testing.T) {
	for _, id := range ids() {
		who, body := pack.U16(nil, uint16(id)), pattern(id%300)
		s := mac.Of([]byte("key"), who, body)
		b, e := token.Seal(id, []byte("key"), body)
		if e != api.OK || !bytes.Equal(b, slices.Concat(who, s[:], body)) {
			t.Fatalf("Seal of %d: %.60x, %d", id, b, e)
		}
	}
}

func TestSealRefused(t *testing.T) {
	for _, id := range noIDs() {
		for _, key := range [][]byte{nil, []byte("k"), pattern(65)} {
			for _, body := range [][]byte{nil, []byte("x"), pattern(300)} {
				if b, e := token.Seal(id, key, body); e != api.EARG || len(b) != 0 {
					t.Fatalf("Seal of %d: %.60x, %d", id, b, e)
				}
			}
		}
	}
}

// ID looks at the length and at two bytes alone.
func TestID(t *testing.T) {
	for n := range 100 {
		for _, b := range [][]byte{make([]byte, n), bytes.Repeat([]byte{1}, n), bytes.Repeat([]byte{255}, n), pattern(n)} {
			id, ok := token.ID(b)
			if ok != (n >= head) || !ok && id != 0 || ok && id != int(b[0])*256+int(b[1]) {
				t.Errorf("ID of %d bytes, %x: %d, %v", n, b, id, ok)
			}
		}
	}
	for first := range 256 {
		for second := range 256 {
			b := pattern(head + second%3)
			b[0], b[1] = byte(first), byte(second)
			if id, ok := token.ID(b); id != first*256+second || !ok {
				t.Fatalf("ID of %x: %d, %v", b, id, ok)
			}
		}
	}
}

func TestOfTooFew(t *testing.T) {
	if id, ok := token.ID(nil); id != 0 || ok {
		t.Errorf("ID of nil: %d, %v", id, ok)
	}
	for n := range head {
		for _, b := range [][]byte{make([]byte, n), pattern(n), pattern(head)[:n], made(7, nil, nil)[:n]} {
			for _, id := range []int{0, 7, int(pattern(head)[0])*256 + int(pattern(head)[1]), 65535, 65536, -1, math.MinInt, math.MaxInt} {
				for _, key := range [][]byte{nil, {}, []byte("k"), pattern(65)} {
					shut(t, b, id, key, api.EFORM)
				}
			}
		}
	}
	for _, id := range []int{0, 1, -1, 65536} {
		shut(t, nil, id, nil, api.EFORM)
	}
}

// Cut off at each place, at the end and at the front, spare room there or not.
func TestCutOff(t *testing.T) {
	for _, key := range [][]byte{nil, []byte("key"), pattern(65)} {
		for _, body := range [][]byte{nil, {0}, []byte("x"), make([]byte, 50), pattern(200)} {
			for _, id := range []int{0, 1, 258, 65535} {
				b := made(id, key, body)
				for n := range b {
					for _, part := range [][]byte{b[:n], b[:n:n]} {
						got, ok := token.ID(part)
						if n < head {
							shut(t, part, id, key, api.EFORM)
							if got != 0 || ok {
								t.Fatalf("ID of %d bytes: %d, %v", n, got, ok)
							}
							continue
						}
						shut(t, part, id, key, api.EAUTH)
						if got != id || !ok {
							t.Fatalf("ID of %d bytes: %d, %v", n, got, ok)
						}
					}
				}
				for n := 1; n <= len(b); n++ {
					rest := b[n:]
					if len(rest) < head {
						shut(t, rest, id, key, api.EFORM)
						continue
					}
					shut(t, rest, id, key, api.EAUTH)
					who, _ := token.ID(rest)
					shut(t, rest, who, key, api.EAUTH)
				}
				opens(t, b, id, key, body)
			}
		}
	}
}

// A sum that is right by another ID's bytes is another one's still.
func TestOtherIDs(t *testing.T) {
	for _, key := range [][]byte{nil, []byte("key"), pattern(65)} {
		for _, id := range ids() {
			b := made(id, key, []byte("body"))
			for _, other := range slices.Concat(ids(), noIDs(), []int{id + 1, id - 1, id + 65536, id - 65536, id + 1<<32, id - 1<<32, id + math.MinInt, -id - 1, ^id, id<<8&0xffff | id>>8}) {
				if other != id {
					shut(t, b, other, key, api.EAUTH)
				}
			}
			opens(t, b, id, key, []byte("body"))
		}
	}
}

func TestEveryOtherID(t *testing.T) {
	key, body := []byte("key"), []byte("body")
	b := made(258, key, body)
	for id := -70000; id < 140000; id++ {
		if id != 258 {
			shut(t, b, id, key, api.EAUTH)
		}
	}
}

// Of another's ID, by either.
func TestMadeAnothers(t *testing.T) {
	for _, key := range [][]byte{nil, []byte("key"), pattern(65)} {
		for _, body := range [][]byte{nil, []byte("x"), pattern(90)} {
			for _, id := range ids() {
				b := made(id, key, body)
				for _, other := range ids() {
					if other == id {
						continue
					}
					w := bytes.Clone(b)
					w[0], w[1] = byte(other>>8), byte(other)
					shut(t, w, other, key, api.EAUTH)
					shut(t, w, id, key, api.EAUTH)
					if who, ok := token.ID(w); who != other || !ok {
						t.Fatalf("ID of %d's, made %d's: %d, %v", id, other, who, ok)
					}
				}
			}
		}
	}
}

func TestOtherKeys(t *testing.T) {
	l := keys()[1:] // nil and an empty one are one
	for i, key := range l {
		for _, body := range [][]byte{nil, []byte("x"), pattern(90)} {
			b := made(7, key, body)
			for k, other := range l {
				if k == i {
					opens(t, b, 7, other, body)
				} else {
					shut(t, b, 7, other, api.EAUTH)
				}
			}
			shut(t, b, 7, append(bytes.Clone(key), 'x'), api.EAUTH)
			if len(key) > 0 {
				shut(t, b, 7, key[:len(key)-1], api.EAUTH)
				shut(t, b, 7, key[1:], api.EAUTH)
			}
			for bit := range 8 * len(key) {
				other := bytes.Clone(key)
				other[bit/8] ^= 1 << (bit % 8)
				shut(t, b, 7, other, api.EAUTH)
			}
		}
	}
	for _, body := range [][]byte{nil, []byte("x")} { // a key of no byte, either way
		opens(t, made(7, nil, body), 7, []byte{}, body)
		opens(t, made(7, []byte{}, body), 7, nil, body)
	}
}

// Each bit turned: in the ID, in the sum, in the body.
func TestEachBit(t *testing.T) {
	for _, key := range [][]byte{nil, []byte("key"), pattern(65)} {
		for _, body := range [][]byte{nil, {0}, []byte("hello"), pattern(70), pattern(150)} {
			for _, id := range []int{0, 1, 258, 65535} {
				b := made(id, key, body)
				for bit := range 8 * len(b) {
					b[bit/8] ^= 1 << (bit % 8)
					shut(t, b, id, key, api.EAUTH)
					who, _ := token.ID(b)
					shut(t, b, who, key, api.EAUTH)
					b[bit/8] ^= 1 << (bit % 8)
				}
				opens(t, b, id, key, body)
			}
		}
	}
}

// Sums that are right but for their order, or that are another thing's.
func TestOtherSums(t *testing.T) {
	id, key, body := 258, []byte("key"), []byte("hello")
	who := []byte{1, 2}
	with := func(s []byte) []byte { return slices.Concat(who, s, body) }
	right := made(id, key, body)[2:head]
	opens(t, with(right), id, key, body)
	turned := bytes.Clone(right)
	slices.Reverse(turned)
	plain := sha256.Sum256(slices.Concat(key, who, body))
	bare := sha256.Sum256(slices.Concat(who, body))
	noID := hmac.New(sha256.New, key)
	noID.Write(body)
	noBody := hmac.New(sha256.New, key)
	noBody.Write(who)
	behind := hmac.New(sha256.New, key)
	behind.Write(slices.Concat(body, who))
	for i, s := range [][]byte{
		turned, plain[:], bare[:], noID.Sum(nil), noBody.Sum(nil), behind.Sum(nil), make([]byte, 32), bytes.Repeat([]byte{255}, 32),
		append(bytes.Clone(right[1:]), right[0]), append([]byte{right[31]}, right[:31]...), append(bytes.Clone(right[16:]), right[:16]...),
		append(bytes.Clone(right[:31]), 0), append(bytes.Clone(right[:16]), make([]byte, 16)...), append(make([]byte, 16), right[16:]...),
		made(id, key, []byte("hellp"))[2:head], made(id+1, key, body)[2:head], made(id, []byte("kex"), body)[2:head], made(513, key, body)[2:head],
	} {
		if bytes.Equal(s, right) {
			t.Fatalf("sum number %d is the right one", i)
		}
		shut(t, with(s), id, key, api.EAUTH)
	}
}

// A body with a byte more or fewer, at each place, or with two that have changed places.
func TestOtherBodies(t *testing.T) {
	for _, body := range [][]byte{{}, {0}, []byte("x"), []byte("hello"), pattern(64), make([]byte, 64)} {
		for _, key := range [][]byte{nil, []byte("key"), pattern(65)} {
			b := made(7, key, body)
			for at := head; at <= len(b); at++ {
				for _, x := range []byte{0, 1, 'o', 255} {
					shut(t, slices.Insert(bytes.Clone(b), at, x), 7, key, api.EAUTH)
				}
				if at < len(b) {
					shut(t, slices.Delete(bytes.Clone(b), at, at+1), 7, key, api.EAUTH)
				}
				if at+1 < len(b) && b[at] != b[at+1] {
					w := bytes.Clone(b)
					w[at], w[at+1] = w[at+1], w[at]
					shut(t, w, 7, key, api.EAUTH)
				}
			}
			shut(t, append(bytes.Clone(b), b...), 7, key, api.EAUTH)
			opens(t, b, 7, key, body)
		}
	}
}

// A body that is itself an envelope is opened once.
func TestEnvelopeInEnvelope(t *testing.T) {
	inner := made(3, []byte("in"), []byte("body"))
	outer, e := token.Seal(9, []byte("out"), inner)
	if e != api.OK || len(outer) != 2*head+4 {
		t.Fatalf("Seal of an envelope: %d bytes, %d", len(outer), e)
	}
	opens(t, outer, 9, []byte("out"), inner)
	shut(t, outer, 3, []byte("in"), api.EAUTH)
	p, _ := token.Open(outer, 9, []byte("out"))
	opens(t, p, 3, []byte("in"), []byte("body"))
}

// Bytes that nobody sealed.
func TestAnyBytes(t *testing.T) {
	x := uint32(1)
	next := func(n int) int {
		x = x*1664525 + 1013904223
		return int(x>>8) % n
	}
	for range 20_000 {
		b := make([]byte, next(80))
		for i := range b {
			b[i] = byte(next(256))
		}
		who, ok := token.ID(b)
		if ok != (len(b) >= head) {
			t.Fatalf("ID of %x: %v", b, ok)
		}
		want := api.EAUTH
		if !ok {
			want = api.EFORM
		}
		shut(t, b, who, pattern(next(9)), want)
		shut(t, b, next(65536), nil, want)
	}
}

// overwrite writes all over an answer, spare room included.
func overwrite(b []byte) {
	b = b[:cap(b)]
	for k := range b {
		b[k] = 99
	}
}

// What was handed in is as it was, spare room included, refused or not. The key and the
// body may lie in one memory.
func TestHandedInIsNotChanged(t *testing.T) {
	for _, n := range []int{0, 1, 5, 31, 32, 33, 34, 64, 65, 200} {
		keyRoom, room := pattern(n+101), pattern(n+102)
		for _, id := range []int{0, 258, 65535, -1, 65536} {
			token.Seal(id, keyRoom[:n], room[:n])
			token.Seal(id, room[:n], room[:n])
			token.Seal(id, room[n/2:n+9], room[:n])
		}
		if !bytes.Equal(keyRoom, pattern(n+101)) || !bytes.Equal(room, pattern(n+102)) {
			t.Fatalf("Seal changed a key or a body of %d bytes, or the room behind", n)
		}
		whole := append(made(258, keyRoom[:n], room[:n]), "behind"...)
		before := bytes.Clone(whole)
		for k := range whole {
			token.ID(whole[:k])
			token.Open(whole[:k], 258, keyRoom[:n])
			token.Open(whole[:k], 257, keyRoom[:n])
			token.Open(whole[:k], 258, keyRoom[:n/2])
			token.Open(whole[:k], 258, whole[:k])
		}
		if !bytes.Equal(whole, before) || !bytes.Equal(keyRoom, pattern(n+101)) {
			t.Fatalf("ID or Open changed the %d bytes, or the room behind", n)
		}
	}
	b, e := token.Seal(5, pattern(80)[:70], pattern(80)[:70])
	if e != api.OK || !bytes.Equal(b, made(5, pattern(80)[:70], pattern(80)[:70])) {
		t.Error("Seal of one list as key and body")
	}
	shared := made(5, pattern(9), pattern(20))
	shut(t, shared, 5, shared, api.EAUTH)
}

// What was told stays as it was when what was handed in is written over, and may itself
// be written over, spare room included.
func TestSealIsNewMemory(t *testing.T) {
	for n := range 300 {
		key, body := pattern(n+20), pattern(n+21)
		want := made(n, key[:n], body[:n])
		first, _ := token.Seal(n, key[:n], body[:n])
		second, _ := token.Seal(n, key[:n], body[:n])
		overwrite(first)
		if !bytes.Equal(second, want) || !bytes.Equal(key, pattern(n+20)) || !bytes.Equal(body, pattern(n+21)) {
			t.Fatalf("Seal of %d bytes shares memory: %.60x", n, second)
		}
		overwrite(key)
		overwrite(body)
		if !bytes.Equal(second, want) {
			t.Fatalf("Seal kept a key or a body of %d bytes", n)
		}
		if third, _ := token.Seal(n, pattern(n + 20)[:n], pattern(n + 21)[:n]); !bytes.Equal(third, want) {
			t.Fatalf("Seal of %d bytes, after an answer was written over: %.60x", n, third)
		}
	}
}

func TestOpenIsNewMemory(t *testing.T) {
	for n := range 300 {
		body, key := pattern(n), append(pattern(n/3), 1)
		whole := append(made(n, key, body), "behind"...)
		before := bytes.Clone(whole)
		b := whole[:head+n]
		first, _ := token.Open(b, n, key)
		second, _ := token.Open(b, n, key)
		overwrite(first)
		if !bytes.Equal(second, body) || !bytes.Equal(whole, before) {
			t.Fatalf("Open of %d bytes shares memory: %.60x", n, second)
		}
		opens(t, b, n, key, body)
		overwrite(whole)
		overwrite(key)
		if !bytes.Equal(second, body) {
			t.Fatalf("Open kept the %d bytes that it was handed", n)
		}
	}
}

// Nothing is kept from call to call: what was opened or refused does not tell later.
func TestKeepsNothing(t *testing.T) {
	key := []byte("key")
	b := made(258, key, []byte("body"))
	for range 3 {
		opens(t, b, 258, key, []byte("body"))
		shut(t, b, 257, key, api.EAUTH)
		shut(t, b, 258, []byte("kex"), api.EAUTH)
		shut(t, b[:33], 258, key, api.EFORM)
		if w, e := token.Seal(-1, key, nil); e != api.EARG || len(w) != 0 {
			t.Fatalf("Seal of -1: %x, %d", w, e)
		}
		if w, _ := token.Seal(258, key, []byte("body")); !bytes.Equal(w, b) {
			t.Fatalf("Seal, again: %x", w)
		}
	}
}

// Very many bytes, and a key of as many.
func TestVeryMany(t *testing.T) {
	body, key := pattern(1<<22), pattern(1<<20)
	b, e := token.Seal(7, key, body)
	if e != api.OK || !bytes.Equal(b, made(7, key, body)) {
		t.Fatalf("Seal of 2^22 bytes: %d bytes, %d", len(b), e)
	}
	opens(t, b, 7, key, body)
	b[len(b)-1] ^= 128
	shut(t, b, 7, key, api.EAUTH)
	for range 1 << 16 { // an ID is told from the front, and no more is copied
		if id, ok := token.ID(b); id != 7 || !ok {
			t.Fatalf("ID of 2^22 bytes: %d, %v", id, ok)
		}
		if p, e := token.Open(b, 8, key); len(p) != 0 || e != api.EAUTH {
			t.Fatalf("Open of 2^22 bytes, another's: %d", e)
		}
	}
}

func TestSideBySide(t *testing.T) {
	wrong := make([]bool, 8)
	body, key := pattern(90), []byte("key")
	b := made(258, key, body)
	var all sync.WaitGroup
	for i := range wrong {
		all.Go(func() {
			for range 300 {
				w, e := token.Seal(258, key, body)
				p, f := token.Open(b, 258, key)
				q, g := token.Open(b, 258, body)
				id, ok := token.ID(b)
				if e != api.OK || f != api.OK || g != api.EAUTH || len(q) != 0 || id != 258 || !ok || !bytes.Equal(w, b) || !bytes.Equal(p, body) {
					wrong[i] = true
				}
			}
		})
	}
	all.Wait()
	if slices.Contains(wrong, true) {
		t.Errorf("workers that were told another thing: %v", wrong)
	}
}

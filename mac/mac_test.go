package mac_test

import (
	"bytes"
	"crypto/hmac"
	"crypto/sha256"
	"sync"
	"testing"

	"warrener/mac"
	"warrener/sum"
)

// pattern is n bytes, another row for each n.
func pattern(n int) []byte {
	b := make([]byte, n)
	x := uint32(n) + 1
	for i := range b {
		x = x*1664525 + 1013904223
		b[i] = byte(x >> 24)
	}
	return b
}

// known is the library's HMAC-SHA256.
func known(key []byte, b ...[]byte) sum.Sum {
	h := hmac.New(sha256.New, key)
	for _, part := range b {
		h.Write(part)
	}
	return sum.Sum(h.Sum(nil))
}

// RFC 4231's cases 1 to 4, 6 and 7, and nothing at all.
func TestOfKnown(t *testing.T) {
	counted := make([]byte, 25)
	for i := range counted {
		counted[i] = byte(i + 1)
	}
	long := bytes.Repeat([]byte{0xaa}, 131)
	for i, c := range []struct {
		key, of []byte
		want    string
	}{
		{bytes.Repeat([]byte{0x0b}, 20), []byte("Hi There"), "b0344c61d8db38535ca8afceaf0bf12b881dc200c9833da726e9376c2e32cff7"},
		{[]byte("Jefe"), []byte("what do ya want for nothing?"), "5bdcc146bf60754e6a042426089575c75a003f089d2739839dec58b964ec3843"},
		{long[:20], bytes.Repeat([]byte{0xdd}, 50), "773ea91e36800e46854db8ebd09181a72959098b3ef8c122d9635514ced565fe"},
		{counted, bytes.Repeat([]byte{0xcd}, 50), "82558a389a443c0ea4cc819899f2083a85f0faa3e578f8077a2e3ff46729665b"},
		{long, []byte("Test Using Larger Than Block-Size Key - Hash Key First"), "60e431591ee0b67f0d8a26aacbf5b77f8e0bc6213728c5140546040f0ee37f54"},
		{long, []byte("This is a test using a larger than block-size key and a larger than block-size data. The key needs to be hashed before being used by the HMAC algorithm."), "9b09ffa71b942fcb27635fbcd5b0e944bfdc63644f0713938a7f51535c3a35e2"},
		{nil, nil, "b613679a0814d9ec772f95d778c35fc5ff1697c493715653c6c712144292c5ad"},
	} {
		if got := sum.Text(mac.Of(c.key, c.of)); got != c.want {
			t.Errorf("Of number %d: %s, not %s", i, got, c.want)
		}
	}
}

func TestOfKeys(t *testing.T) {
	for n := range 300 {
		key := pattern(n)
		for _, size := range []int{0, 1, 32, 55, 56, 63, 64, 65, 200} {
			b := pattern(size)
			if mac.Of(key, b) != known(key, b) {
				t.Errorf("Of a key of %d bytes, %d bytes", n, size)
			}
		}
	}
}

func TestOfLongKey(t *testing.T) {
	b := []byte("abc")
	for n := range 200 {
		key := pattern(n)
		s := sum.Of(key)
		alike := mac.Of(key, b) == mac.Of(s[:], b)
		if alike != (n > 64) {
			t.Errorf("a key of %d bytes is its sum: %v", n, alike)
		}
	}
	key := pattern(1 << 20)
	if mac.Of(key, b) != known(key, b) {
		t.Error("a key of 2^20 bytes")
	}
}

func TestOfNothing(t *testing.T) {
	for _, key := range [][]byte{nil, {}, {0}, make([]byte, 64)} {
		for i, b := range [][][]byte{nil, {}, {nil}, {{}}, {nil, {}, nil}} {
			if got := mac.Of(key, b...); got != known(nil) {
				t.Errorf("Of key %v, nothing, way %d: %s", key, i, sum.Text(got))
			}
		}
	}
	if mac.Of(make([]byte, 65)) == known(nil) {
		t.Error("a key of 65 bytes 0 is its sum, not nothing")
	}
}

func TestOfParts(t *testing.T) {
	key := []byte("key")
	for n := range 200 {
		b := pattern(n)
		want := known(key, b)
		for at := range n + 1 {
			half := at / 2
			if mac.Of(key, b[:at], b[at:]) != want {
				t.Errorf("Of %d bytes, parted at %d", n, at)
			}
			if mac.Of(key, b[:half], nil, b[half:at], []byte{}, b[at:], nil) != want {
				t.Errorf("Of %d bytes, parted at %d and %d", n, half, at)
			}
		}
	}
}

func TestOfManyParts(t *testing.T) {
	key, b := pattern(64), pattern(1000)
	want := known(key, b)
	for _, size := range []int{1, 2, 31, 63, 64, 65, 127, 128, 129, 999} {
		var parts [][]byte
		for at := 0; at < len(b); at += size {
			parts = append(parts, b[at:min(at+size, len(b))])
		}
		if mac.Of(key, parts...) != want {
			t.Errorf("Of parts of %d bytes", size)
		}
		if !mac.Check(key, want, parts...) {
			t.Errorf("Check of parts of %d bytes", size)
		}
	}
}

// The key may lie in the same memory as the parts.
func TestOfSharedMemory(t *testing.T) {
	b := pattern(200)
	if mac.Of(b[:80], b[10:90], b, b[:80]) != known(b[:80], b[10:90], b, b[:80]) {
		t.Error("Of parts that overlap the key")
	}
}

func TestOfTellsApart(t *testing.T) {
	of := func(key string, b ...string) sum.Sum {
		var parts [][]byte
		for _, part := range b {
			parts = append(parts, []byte(part))
		}
		return mac.Of([]byte(key), parts...)
	}
	want := of("key", "ab", "c")
	for i, other := range []sum.Sum{
		of("key", "c", "ab"), of("key", "ab"), of("key", "abc\x00"), of("key", "\x00abc"), of("kex", "abc"),
		of("keya", "bc"), of("ke", "yabc"), of("", "keyabc"), of("abc", "key"), of("\x00key", "abc"),
	} {
		if other == want {
			t.Errorf("number %d is alike", i)
		}
	}
}

func TestLeavesArguments(t *testing.T) {
	for _, n := range []int{0, 3, 63, 64, 65, 130} {
		keyRoom, room := pattern(n+200), pattern(n+201)
		keyBefore, before := bytes.Clone(keyRoom), bytes.Clone(room)
		behind := []byte("behind")
		list := [][]byte{room[:n], room[n : n+3], behind, behind}
		got := mac.Of(keyRoom[:n], list[:2]...)
		mac.Check(keyRoom[:n], got, list[:2]...)
		mac.Same(keyRoom[:n], room[:n])
		if !bytes.Equal(keyRoom, keyBefore) || !bytes.Equal(room, before) {
			t.Errorf("%d bytes: the key or the parts were changed, or the room behind", n)
		}
		if len(list[0]) != n || len(list[1]) != 3 || string(list[2]) != "behind" || string(list[3]) != "behind" {
			t.Errorf("%d bytes: the list of parts was changed, or the room behind", n)
		}
		clear(keyRoom)
		clear(room)
		if got != known(keyBefore[:n], before[:n+3]) {
			t.Errorf("%d bytes: hangs on what comes later", n)
		}
	}
}

func TestKeepsNothing(t *testing.T) {
	want := known([]byte("key"), []byte("abc"))
	mac.Of([]byte("other"), pattern(77))
	if mac.Of([]byte("key"), []byte("abc")) != want {
		t.Error("the same, later, is another")
	}
	var all sync.WaitGroup
	wrong := make([]bool, 8)
	for i := range wrong {
		all.Go(func() {
			for range 100 {
				if mac.Of([]byte("key"), []byte("a"), []byte("bc")) != want || !mac.Check([]byte("key"), want, []byte("abc")) {
					wrong[i] = true
				}
			}
		})
	}
	all.Wait()
	for i, w := range wrong {
		if w {
			t.Errorf("side by side, worker %d", i)
		}
	}
}

func TestSame(t *testing.T) {
	for _, n := range []int{0, 1, 2, 31, 32, 33, 64, 257} {
		a := pattern(n)
		if !mac.Same(a, a) || !mac.Same(a, bytes.Clone(a)) {
			t.Errorf("Same of %d bytes and the same", n)
		}
		for at := range a {
			for bit := range 8 {
				b := bytes.Clone(a)
				b[at] ^= 1 << bit
				if mac.Same(a, b) || mac.Same(b, a) {
					t.Fatalf("Same of %d bytes, bit %d at %d another", n, bit, at)
				}
			}
		}
	}
}

// What is another in two places must not come out as nothing.
func TestSameTwoApart(t *testing.T) {
	for _, pair := range [][2][]byte{
		{{1, 1}, {0, 0}}, {{1, 0}, {0, 1}}, {{1, 255}, {0, 0}}, {{128, 128}, {0, 0}},
		{[]byte("ab"), []byte("ba")}, {bytes.Repeat([]byte{1}, 256), make([]byte, 256)},
	} {
		if mac.Same(pair[0], pair[1]) || mac.Same(pair[1], pair[0]) {
			t.Errorf("Same of %v and %v", pair[0], pair[1])
		}
	}
}

func TestSameLengths(t *testing.T) {
	for i := range 70 {
		for j := range 70 {
			if mac.Same(make([]byte, i), make([]byte, j)) != (i == j) {
				t.Errorf("Same of %d and of %d bytes 0", i, j)
			}
		}
	}
	if mac.Same(make([]byte, 256), nil) || mac.Same(nil, make([]byte, 256)) {
		t.Error("Same of nothing and of 256 bytes 0")
	}
	if !mac.Same(nil, nil) || !mac.Same(nil, []byte{}) || !mac.Same([]byte{}, nil) {
		t.Error("Same of nothing")
	}
}

func TestCheck(t *testing.T) {
	for _, n := range []int{0, 1, 4, 63, 64, 65, 131} {
		key, b := pattern(n), pattern(n+7)
		s := known(key, b)
		if !mac.Check(key, s, b) || !mac.Check(key, s, b[:n], nil, b[n:]) {
			t.Errorf("Check of a key of %d bytes", n)
		}
		for at := range s {
			for bit := range 8 {
				wrong := s
				wrong[at] ^= 1 << bit
				if mac.Check(key, wrong, b) {
					t.Fatalf("Check of a key of %d bytes, bit %d at %d another", n, bit, at)
				}
			}
		}
		if mac.Check(key, s, b, []byte{0}) || mac.Check(key, s, b[:n]) || mac.Check(key, s, b[n:], b[:n]) && n > 0 || mac.Check(key, s) {
			t.Errorf("Check of a key of %d bytes, other bytes", n)
		}
		if mac.Check(append([]byte("x"), key...), s, b) || mac.Check(append(key, 1), s, b) {
			t.Errorf("Check of a key of %d bytes, another key", n)
		}
	}
}

func TestCheckOfNothing(t *testing.T) {
	if !mac.Check(nil, known(nil)) || !mac.Check([]byte{}, known(nil), nil, nil) {
		t.Error("Check of nothing")
	}
	if mac.Check(nil, sum.Sum{}) || mac.Check(nil, sum.Of()) || mac.Check([]byte("k"), sum.Of([]byte("abc")), []byte("abc")) {
		t.Error("Check of a sum without the key")
	}
}

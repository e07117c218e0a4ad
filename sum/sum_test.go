package sum_test

import (
	"bytes"
	"crypto/sha256"
	"strings"
	"sync"
	"testing"

	"warrener/sum"
)

// pattern is n bytes of which no block is like another.
func pattern(n int) []byte {
	b := make([]byte, n)
	x := uint32(n) + 1
	for i := range b {
		x = x*1664525 + 1013904223
		b[i] = byte(x >> 24)
	}
	return b
}

func TestOfKnown(t *testing.T) {
	for _, c := range []struct{ of, want string }{
		{"", "e3b0c44298fc1c149afbf4c8996fb92427ae41e4649b934ca495991b7852b855"},
		{"abc", "ba7816bf8f01cfea414140de5dae2223b00361a396177a9cb410ff61f20015ad"},
		{"\xbd", "68325720aabd7c82f30f554b313d0570c95accbb7dc4b5aae11204c08ffe732b"},
		{"abcdbcdecdefdefgefghfghighijhijkijkljklmklmnlmnomnopnopq", "248d6a61d20638b8e5c026930c3e6039a33ce45964ff2167f6ecedd419db06c1"},
		{"abcdefghbcdefghicdefghijdefghijkefghijklfghijklmghijklmnhijklmnoijklmnopjklmnopqklmnopqrlmnopqrsmnopqrstnopqrstu", "cf5b16a778af8380036ce59e7b0492370b249b11e8f07a51afac45037afee9d1"},
		{strings.Repeat("a", 1000000), "cdc76e5c9914fb9281a1c7e284d73e67f1809a48a497200e046d39ccc7112cd0"},
	} {
		if got := sum.Text(sum.Of([]byte(c.of))); got != c.want {
			t.Errorf("Of %.20q: %s, not %s", c.of, got, c.want)
		}
	}
}

func TestOfNothing(t *testing.T) {
	want := sum.Sum(sha256.Sum256(nil))
	for i, b := range [][][]byte{nil, {}, {nil}, {{}}, {nil, {}, nil}} {
		if sum.Of(b...) != want {
			t.Errorf("Of nothing, way %d", i)
		}
	}
}

func TestOfLengths(t *testing.T) {
	for n := range 400 {
		b := pattern(n)
		if sum.Of(b) != sum.Sum(sha256.Sum256(b)) {
			t.Errorf("Of %d bytes", n)
		}
		clear(b)
		if sum.Of(b) != sum.Sum(sha256.Sum256(b)) {
			t.Errorf("Of %d bytes 0", n)
		}
	}
}

func TestOfParts(t *testing.T) {
	for n := range 200 {
		b := pattern(n)
		want := sum.Sum(sha256.Sum256(b))
		for at := range n + 1 {
			if sum.Of(b[:at], b[at:]) != want {
				t.Errorf("Of %d bytes, parted at %d", n, at)
			}
			half := at / 2
			if sum.Of(b[:half], nil, b[half:at], []byte{}, b[at:], nil) != want {
				t.Errorf("Of %d bytes, parted at %d and %d", n, half, at)
			}
		}
	}
}

func TestOfManyParts(t *testing.T) {
	b := pattern(1000)
	want := sum.Sum(sha256.Sum256(b))
	for _, size := range []int{1, 2, 7, 31, 55, 56, 63, 64, 65, 127, 128, 129, 999} {
		var parts [][]byte
		for at := 0; at < len(b); at += size {
			parts = append(parts, b[at:min(at+size, len(b))])
		}
		if sum.Of(parts...) != want {
			t.Errorf("Of parts of %d bytes", size)
		}
	}
}

func TestOfHangsOnOrder(t *testing.T) {
	if sum.Of([]byte("ab"), []byte("c")) == sum.Of([]byte("c"), []byte("ab")) {
		t.Error("the order of the parts does not tell")
	}
}

// From 2^29 bytes on, how many bits there are does not fit into 32 bits.
func TestOfLong(t *testing.T) {
	if testing.Short() {
		t.Skip("half a GiB")
	}
	part := pattern(1 << 20)
	parts := make([][]byte, 512)
	h := sha256.New()
	for i := range parts {
		parts[i] = part
		h.Write(part)
	}
	if got := sum.Of(parts...); !bytes.Equal(got[:], h.Sum(nil)) {
		t.Errorf("Of 2^29 bytes: %s", sum.Text(got))
	}
}

func TestOfLeavesArguments(t *testing.T) {
	for _, n := range []int{0, 1, 55, 56, 63, 64, 65, 130} {
		room := pattern(n + 80)
		before := bytes.Clone(room)
		parts := [][]byte{room[:n], room[n : n+3]}
		got := sum.Of(parts...)
		if !bytes.Equal(room, before) {
			t.Errorf("Of %d bytes changed them, or the room behind", n)
		}
		if len(parts[0]) != n || len(parts[1]) != 3 {
			t.Errorf("Of %d bytes changed the list of parts", n)
		}
		clear(room)
		if got != sum.Of(before[:n+3]) {
			t.Errorf("Of %d bytes hangs on what comes later", n)
		}
	}
}

func TestOfKeepsNothing(t *testing.T) {
	want := sum.Of([]byte("abc"))
	spoilt := want
	clear(spoilt[:])
	sum.Of(pattern(77))
	if sum.Of([]byte("abc")) != want {
		t.Error("the same bytes, later, have another sum")
	}
	var all sync.WaitGroup
	got := make([]sum.Sum, 8)
	for i := range got {
		all.Go(func() {
			for range 100 {
				got[i] = sum.Of([]byte("a"), []byte("bc"))
			}
		})
	}
	all.Wait()
	for i, s := range got {
		if s != want {
			t.Errorf("side by side, worker %d: %s", i, sum.Text(s))
		}
	}
}

func TestText(t *testing.T) {
	if got := sum.Text(sum.Sum{}); got != strings.Repeat("0", 64) {
		t.Errorf("Text of all 0: %q", got)
	}
	for i := range 32 {
		for v := range 256 {
			var s sum.Sum
			s[i] = byte(v)
			pair := string("0123456789abcdef"[v/16]) + string("0123456789abcdef"[v%16])
			want := strings.Repeat("00", i) + pair + strings.Repeat("00", 31-i)
			if got := sum.Text(s); got != want {
				t.Fatalf("Text with %d at %d: %q", v, i, got)
			}
			if got, ok := sum.Parse(want); !ok || got != s {
				t.Fatalf("Parse of %q: %v %v", want, got, ok)
			}
		}
	}
}

func TestTextAndBack(t *testing.T) {
	for n := range 300 {
		s := sum.Of(pattern(n))
		if got, ok := sum.Parse(sum.Text(s)); !ok || got != s {
			t.Errorf("Parse of Text of %v: %v %v", s, got, ok)
		}
	}
}

func refused(t *testing.T, text string) {
	t.Helper()
	if s, ok := sum.Parse(text); ok || s != (sum.Sum{}) {
		t.Errorf("Parse of %q: %v %v", text, s, ok)
	}
}

func TestParseLengths(t *testing.T) {
	for n := range 200 {
		if n != 64 {
			refused(t, strings.Repeat("7", n))
		}
	}
	good := sum.Text(sum.Of([]byte("abc")))
	for _, text := range []string{" " + good, good + " ", good + "\n", good + "\x00", "0x" + good, "0x" + good[2:], good + good} {
		refused(t, text)
	}
}

func TestParseDigits(t *testing.T) {
	good := sum.Text(sum.Of([]byte("abc")))
	for at := range good {
		for c := range 256 {
			text := good[:at] + string([]byte{byte(c)}) + good[at+1:]
			if !strings.Contains("0123456789abcdef", string([]byte{byte(c)})) {
				refused(t, text)
			} else if s, ok := sum.Parse(text); !ok || sum.Text(s) != text {
				t.Errorf("Parse of %q: %v %v", text, s, ok)
			}
		}
	}
	for _, text := range []string{strings.ToUpper(good), strings.Repeat("é", 32), strings.Repeat("é", 64), strings.Repeat("٣", 32), strings.Repeat("g", 64), strings.Repeat("\xff", 64)} {
		refused(t, text)
	}
}

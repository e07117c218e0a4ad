package ord_test

import (
	"bytes"
	"errors"
	"maps"
	"math"
	"runtime"
	"slices"
	"strconv"
	"strings"
	"sync"
	"testing"
	"unsafe"
	"weak"

	"warrener/api"
	"warrener/ord"
)

// byBytes are the names of what should be there, in order: held by bytes alone, and
// not by what the program compares with.
func byBytes[V any](is map[string]V) []string {
	l := slices.Collect(maps.Keys(is))
	slices.SortFunc(l, func(a, b string) int { return bytes.Compare([]byte(a), []byte(b)) })
	return l
}

// checkAs holds all that an ord tells against what should be there; twice, since
// telling it changes nothing. Things are told apart by same.
func checkAs[V any](t *testing.T, what string, o *ord.Ord[V], same func(a, b V) bool, is map[string]V) {
	t.Helper()
	var zero V
	for range 2 {
		names := byBytes(is)
		if o.Len() != len(names) {
			t.Fatalf("%s: Len %d, not %d", what, o.Len(), len(names))
		}
		if l := o.Names(); !slices.Equal(l, names) {
			t.Fatalf("%s: Names tells %q, not %q", what, l, names)
		}
		for i, name := range names {
			if n, v, ok := o.At(i); !ok || n != name || !same(v, is[name]) {
				t.Fatalf("%s: At(%d): %q, %v, %v, not %q, %v", what, i, n, v, ok, name, is[name])
			}
			if v, ok := o.Get(name); !ok || !same(v, is[name]) {
				t.Fatalf("%s: Get(%q): %v, %v, not %v", what, name, v, ok, is[name])
			}
		}
		for _, i := range []int{math.MinInt, math.MinInt32, -4096, -2, -1, len(names), len(names) + 1, 4096, 4097, math.MaxInt32, 1 << 32, 1<<32 + 1, math.MaxInt} {
			if i >= 0 && i < len(names) {
				continue
			}
			if n, v, ok := o.At(i); ok || n != "" || !same(v, zero) {
				t.Fatalf("%s: of %d, At(%d): %q, %v, %v", what, len(names), i, n, v, ok)
			}
		}
	}
}

func check[V comparable](t *testing.T, what string, o *ord.Ord[V], is map[string]V) {
	t.Helper()
	checkAs(t, what, o, equal[V], is)
}

func equal[V comparable](a, b V) bool { return a == b }

// none holds that a name isn't there, by all that can be asked of it.
func none[V comparable](t *testing.T, what string, o *ord.Ord[V], name string) {
	t.Helper()
	var zero V
	if v, ok := o.Get(name); ok || v != zero {
		t.Fatalf("%s: Get(%q) of none: %v, %v", what, name, v, ok)
	}
	if o.Drop(name) {
		t.Fatalf("%s: Drop(%q) of none: true", what, name)
	}
}

func TestExample(t *testing.T) {
	o := ord.New[int](2)
	for i, name := range []string{"b", "a"} {
		if ok, e := o.Put(name, i); !ok || e != api.OK {
			t.Errorf("Put %s: %v, %d", name, ok, e)
		}
	}
	if l := o.Names(); !slices.Equal(l, []string{"a", "b"}) {
		t.Errorf("Names: %q", l)
	}
}

func TestNewIsHeldTo(t *testing.T) {
	for _, c := range []struct{ most, want int }{
		{math.MinInt, 1}, {math.MinInt32, 1}, {-4097, 1}, {-4096, 1}, {-2, 1}, {-1, 1}, {0, 1},
		{1, 1}, {2, 2}, {3, 3}, {16, 16}, {1000, 1000}, {4095, 4095}, {4096, 4096},
		{4097, 4096}, {5000, 4096}, {1 << 16, 4096}, {1<<16 + 1, 4096}, {math.MaxInt32, 4096}, {1 << 32, 4096}, {1<<32 + 5, 4096}, {math.MaxInt, 4096},
	} {
		what := "New(" + strconv.Itoa(c.most) + ")"
		o := ord.New[int](c.most)
		is := map[string]int{}
		check(t, what, o, is)
		none(t, what, o, "")
		for i := range c.want {
			name := strconv.Itoa(i * 7919 % 65537)
			if ok, e := o.Put(name, i); !ok || e != api.OK {
				t.Fatalf("%s: Put number %d: %v, %d", what, i, ok, e)
			}
			is[name] = i
		}
		check(t, what+", full", o, is)
		for _, name := range []string{"", "/", "3x", "\xff"} {
			if ok, e := o.Put(name, -1); ok || e != api.EFULL {
				t.Fatalf("%s: Put of one more than %d: %v, %d", what, c.want, ok, e)
			}
		}
		check(t, what+", full, others put", o, is)
	}
}

func TestPutOfNew(t *testing.T) {
	for _, row := range [][]string{{"a", "b", "c", "d"}, {"d", "c", "b", "a"}, {"b", "d", "a", "c"}, {"c", "", "\xff", "b"}} {
		o := ord.New[string](4)
		is := map[string]string{}
		for _, name := range row {
			none(t, "ahead of Put", o, name)
			if ok, e := o.Put(name, "of "+name); !ok || e != api.OK {
				t.Fatalf("Put %q: %v, %d", name, ok, e)
			}
			is[name] = "of " + name
			check(t, "after Put "+strconv.Quote(name), o, is)
		}
	}
}

func TestPutOfOneThatIsThere(t *testing.T) {
	for _, most := range []int{1, 2, 3, 7, 4096} {
		for _, held := range []int{1, (most + 1) / 2, most} { // also where most are
			o := ord.New[int](most)
			is := map[string]int{}
			for i := range held {
				o.Put(strconv.Itoa(i), i+1)
				is[strconv.Itoa(i)] = i + 1
			}
			for k, i := range []int{0, held / 2, held - 1, held - 1} {
				name, v := strconv.Itoa(i), -k // the first of them is the zero value
				if ok, e := o.Put(name, v); ok || e != api.OK {
					t.Fatalf("%d of %d, Put of %s again: %v, %d", held, most, name, ok, e)
				}
				is[name] = v
				check(t, "put again", o, is)
			}
			if ok, e := o.Put("0", is["0"]); ok || e != api.OK { // the same once more
				t.Fatalf("%d of %d, Put of the same: %v, %d", held, most, ok, e)
			}
			check(t, "the same put again", o, is)
		}
	}
}

func TestPutWhereMostAre(t *testing.T) {
	for _, most := range []int{1, 2, 3, 7} {
		o := ord.New[string](most)
		is := map[string]string{}
		for i := range most {
			name := string([]byte{'b' + byte(i)})
			o.Put(name, name)
			is[name] = name
		}
		for range 2 {
			for _, name := range []string{"", "\x00", "a", "b\x00", "bb", "B", "c\xff", "z", "\xff"} { // ahead, between, behind
				if ok, e := o.Put(name, "new"); ok || e != api.EFULL {
					t.Fatalf("of %d, Put of new %q: %v, %d", most, name, ok, e)
				}
				check(t, "refused "+strconv.Quote(name), o, is)
				none(t, "refused", o, name)
			}
		}
		if !o.Drop("b") { // there is room for one again, and for no more
			t.Fatal("Drop b")
		}
		delete(is, "b")
		if ok, e := o.Put("\x00", "new"); !ok || e != api.OK {
			t.Fatalf("of %d, Put where there is room again: %v, %d", most, ok, e)
		}
		is["\x00"] = "new"
		if ok, e := o.Put("b", "b"); ok || e != api.EFULL {
			t.Fatalf("of %d, Put where it is full again: %v, %d", most, ok, e)
		}
		check(t, "full again", o, is)
	}
}

func TestGetAndDropOfNone(t *testing.T) {
	o := ord.New[int](4)
	is := map[string]int{}
	others := []string{"", "\x00", "a", "b\x00", "b ", "B", "bb", "c", "d\xff", "dd", "e", "\xff"}
	for _, name := range append([]string{""}, "b", "d", "bc", "da") {
		if name != "" {
			o.Put(name, 5)
			is[name] = 5
		}
		for _, other := range others {
			none(t, "names like "+name, o, other)
		}
		check(t, "none dropped", o, is)
	}
}

func TestDrop(t *testing.T) {
	names := []string{"a", "b", "c", "d", "e"}
	for i := range names {
		for k := range names { // one is gone, then another: each pair of places
			o := ord.New[int](5)
			is := map[string]int{}
			for v, name := range names {
				o.Put(name, v+1)
				is[name] = v + 1
			}
			for _, gone := range []string{names[i], names[k]} {
				if _, there := is[gone]; o.Drop(gone) != there {
					t.Fatalf("Drop %s, %s, at %s: not %v", names[i], names[k], gone, there)
				}
				delete(is, gone)
				check(t, "after Drop "+gone, o, is)
				none(t, "after Drop", o, gone)
			}
			if ok, e := o.Put(names[i], 9); !ok || e != api.OK { // new again
				t.Fatalf("Put of %s, that was dropped: %v, %d", names[i], ok, e)
			}
			is[names[i]] = 9
			check(t, "put anew", o, is)
		}
	}
}

func TestFullAndEmptyAgain(t *testing.T) {
	for _, most := range []int{1, 2, 3, 16, 4096} {
		o := ord.New[int](most)
		for round := range 3 {
			is := map[string]int{}
			for i := range most {
				name := strconv.Itoa((i*2 + round) * 7919 % 65537)
				if ok, e := o.Put(name, i+1); !ok || e != api.OK {
					t.Fatalf("of %d, round %d, Put %d: %v, %d", most, round, i, ok, e)
				}
				is[name] = i + 1
			}
			check(t, "full", o, is)
			if ok, e := o.Put("x", 1); ok || e != api.EFULL {
				t.Fatalf("of %d, round %d, Put where most are: %v, %d", most, round, ok, e)
			}
			for name := range is {
				if !o.Drop(name) {
					t.Fatalf("of %d, round %d, Drop %s: false", most, round, name)
				}
			}
			check(t, "empty again", o, map[string]int{})
			none(t, "empty again", o, "0")
			none(t, "empty again", o, "")
		}
	}
}

// hardNames are such as an order by anything but bytes would lay otherwise.
func hardNames() []string {
	l := []string{
		"", "a", "aa", "aaa", "ab", "b", "ba", "A", "B", "Aa", "aA", "Z", "z", " ", "a ", " a", "a b", "-", "_", "~",
		"1", "2", "9", "10", "19", "100", "01", "001", "-1", "1.5",
		"\x00", "\x00\x00", "a\x00", "a\x00b", "a\x00\x00", "\x00a", "\xff", "\xff\xff", "a\xff", "a\xff\x00", "\xffa", "\xfe", "\xfe\xff", "\x7f", "\x80", "\x80\x00",
		"é", "e", "e\u0301", "ß", "ss", "ä", "Ä", "日", "\xe6\x97", "\U0001f407", "\uffff", "\ufffd", "\xc3", "\xc3\xa9x", "\xed\xa0\x80", "K", "\u212a", "k",
	}
	long := strings.Repeat("x", 1<<16)
	l = append(l, long, long+"\x00", long+"y", long[1:], long[1:]+"\xff", long[1:]+"\x00", "\x00"+long, "\xff"+long)
	for b := range 256 {
		l = append(l, string([]byte{'q', byte(b)}), string([]byte{byte(b), 'q'}))
	}
	return l
}

func TestByTheirBytes(t *testing.T) {
	names := hardNames()
	for turn := range 5 {
		o := ord.New[int](4096)
		is := map[string]int{}
		for i := range names {
			name := names[(i*(turn*2+7)+turn*31)%len(names)]
			_, there := is[name]
			if ok, e := o.Put(name, i); ok == there || e != api.OK {
				t.Fatalf("turn %d, Put %.20q: %v, %d", turn, name, ok, e)
			}
			is[name] = i
		}
		check(t, "hard names", o, is)
		for i, name := range names {
			if i%3 == turn%3 {
				if _, there := is[name]; o.Drop(name) != there {
					t.Fatalf("turn %d, Drop %.20q: not %v", turn, name, there)
				}
				delete(is, name)
			}
		}
		check(t, "hard names, some gone", o, is)
	}
}

// Of all pairs of names, in both orders: the lesser stands first, and each has its own thing.
func TestAllPairs(t *testing.T) {
	var names []string
	for _, name := range hardNames() {
		if len(name) < 5 && !slices.Contains(names, name) {
			names = append(names, name)
		}
	}
	for i, a := range names {
		for k, b := range names {
			o := ord.New[int](2)
			o.Put(a, i+1)
			if ok, e := o.Put(b, k+1); ok != (a != b) || e != api.OK {
				t.Fatalf("Put %q behind %q: %v, %d", b, a, ok, e)
			}
			less, v := a, i+1
			if bytes.Compare([]byte(a), []byte(b)) > 0 {
				less, v = b, k+1
			}
			if name, x, ok := o.At(0); !ok || name != less || x != v {
				t.Fatalf("%q, %q: At(0) is %q, %d", a, b, name, x)
			}
			if x, ok := o.Get(b); !ok || x != k+1 {
				t.Fatalf("%q, %q: the second is %d, %v", a, b, x, ok)
			}
			if x, ok := o.Get(a); !ok || x != i+1 {
				t.Fatalf("%q, %q: the first is %d, %v", a, b, x, ok)
			}
		}
	}
}

func TestLongNames(t *testing.T) {
	long := strings.Repeat("long", 1<<18)
	o := ord.New[int](3)
	is := map[string]int{}
	for i, name := range []string{long + "b", long, long + "a"} {
		o.Put(name, i+1)
		is[name] = i + 1
	}
	if ok, e := o.Put(long+"c", 4); ok || e != api.EFULL {
		t.Errorf("Put of a fourth long one: %v, %d", ok, e)
	}
	if ok, e := o.Put(strings.Repeat("long", 1<<18)+"a", 5); ok || e != api.OK { // alike, in other memory
		t.Errorf("Put of a long one that is there: %v, %d", ok, e)
	}
	is[long+"a"] = 5
	l := byBytes(is)
	if !slices.Equal(o.Names(), l) || o.Len() != 3 {
		t.Errorf("long names: %d of them, not in order", o.Len())
	}
	if _, ok := o.Get(long[1:]); ok {
		t.Error("one that is shorter by a byte is there")
	}
	if v, ok := o.Get(long + "a"); !ok || v != 5 {
		t.Errorf("Get of a long one: %d, %v", v, ok)
	}
	if !o.Drop(long) || o.Drop(long) {
		t.Error("Drop of a long one")
	}
}

// step does one thing to both the ord and to what should be there.
func step(t *testing.T, o *ord.Ord[int], most int, is map[string]int, put bool, name string, x int) {
	t.Helper()
	_, there := is[name]
	if !put {
		if o.Drop(name) != there {
			t.Fatalf("of %d, %d there: Drop(%q) is not %v", most, len(is), name, there)
		}
		delete(is, name)
		return
	}
	ok, e := o.Put(name, x)
	if !there && len(is) >= most {
		if ok || e != api.EFULL {
			t.Fatalf("of %d, all there: Put(%q) of a new one: %v, %d", most, name, ok, e)
		}
		return
	}
	if ok == there || e != api.OK {
		t.Fatalf("of %d, %d there: Put(%q): %v, %d", most, len(is), name, ok, e)
	}
	is[name] = x
}

func TestAnySteps(t *testing.T) {
	for most := 1; most <= 9; most++ {
		for seed := range uint32(20) {
			o := ord.New[int](most)
			is := map[string]int{}
			x := seed*7919 + uint32(most)
			for i := range 300 {
				x = x*1664525 + 1013904223
				often := 1 + uint32(i/60)%3 // for a while more come, then more go
				step(t, o, most, is, x>>24%4 < often, strconv.Itoa(int(x>>16%13)), int(x>>8))
				if i%3 != 0 { // all is asked in between, or it is not
					check(t, "any steps", o, is)
				}
			}
			check(t, "any steps, at their end", o, is)
		}
	}
}

// All rows of so many steps, in which each is a Put or a Drop of one of three names.
func TestAllShortRows(t *testing.T) {
	names := []string{"", "a", "a\x00"}
	for most := 1; most <= 3; most++ {
		for row := range 6 * 6 * 6 * 6 * 6 {
			o := ord.New[int](most)
			is := map[string]int{}
			for i, rest := 0, row; i < 5; i, rest = i+1, rest/6 {
				step(t, o, most, is, rest%6 < 3, names[rest%3], i+1)
			}
			check(t, "a short row", o, is)
		}
	}
}

func TestNamesIsNewMemory(t *testing.T) {
	for n := range 6 {
		o := ord.New[int](8)
		is := map[string]int{}
		for i := range n {
			name := string([]byte{'a' + byte(i)})
			o.Put(name, i)
			is[name] = i
		}
		was := byBytes(is)
		a, b := o.Names(), o.Names()
		for i := range a[:cap(a)] {
			a[:cap(a)][i] = "written"
		}
		a = append(a, "behind")
		if !slices.Equal(b, was) {
			t.Fatalf("%d there: two answers share memory: %q", n, b)
		}
		check(t, "Names was written over", o, is)
		o.Drop("a")
		o.Put("0", 1)
		o.Put("bb", 2)
		o.Put("z", 3)
		if !slices.Equal(b, was) {
			t.Fatalf("%d there: Names hangs on what comes later: %q", n, b)
		}
		if len(a) != n+1 || a[n] != "behind" {
			t.Fatalf("%d there: the spare room of Names was written: %q", n, a)
		}
	}
}

// A name is kept, not the memory that it came in.
func TestNamesAreNotKeptAsTheyCame(t *testing.T) {
	room := []byte("abc")
	o := ord.New[int](3)
	for i := range room {
		o.Put(unsafe.String(&room[i], 1), i)
	}
	copy(room, "zzz")
	check(t, "names written over", o, map[string]int{"a": 0, "b": 1, "c": 2})
}

// kinds puts, tells, puts anew and drops things of one kind, told apart by same.
func kinds[V any](t *testing.T, kind string, same func(a, b V) bool, things ...V) {
	t.Helper()
	o := ord.New[V](len(things))
	for round := range 3 {
		what := kind + ", round " + strconv.Itoa(round)
		is := map[string]V{}
		checkAs(t, what+", none", o, same, is)
		for i := range things {
			v := things[len(things)-1-i]
			name := strconv.Itoa((i*7 + round) % 11)
			if ok, e := o.Put(name, v); !ok || e != api.OK {
				t.Errorf("%s: Put %d: %v, %d", what, i, ok, e)
			}
			is[name] = v
			checkAs(t, what, o, same, is)
		}
		if ok, e := o.Put("x", things[0]); ok || e != api.EFULL {
			t.Errorf("%s: Put where most are: %v, %d", what, ok, e)
		}
		checkAs(t, what+", refused", o, same, is)
		for i, name := range byBytes(is) { // each has another thing now
			if ok, e := o.Put(name, things[i]); ok || e != api.OK {
				t.Errorf("%s: Put anew %d: %v, %d", what, i, ok, e)
			}
			is[name] = things[i]
			checkAs(t, what+", anew", o, same, is)
		}
		for _, name := range byBytes(is) {
			var zero V
			if !o.Drop(name) || o.Drop(name) {
				t.Errorf("%s: Drop %s", what, name)
			}
			if v, ok := o.Get(name); ok || !same(v, zero) {
				t.Errorf("%s: Get of one that was dropped is not zero and false", what)
			}
			delete(is, name)
			checkAs(t, what+", dropped", o, same, is)
		}
	}
}

func TestKinds(t *testing.T) {
	type pair struct {
		name string
		n    int
	}
	one, other := 1, 1
	wrong := errors.New("wrong")
	kinds(t, "int", equal[int], 0, -1, 0, math.MaxInt, math.MinInt)
	kinds(t, "byte", equal[byte], 0, 255, 7)
	kinds(t, "bool", equal[bool], false, true, false)
	kinds(t, "string", equal[string], "", "a", "", "a\x00b")
	kinds(t, "struct", equal[pair], pair{}, pair{"a", 1}, pair{"", 2})
	kinds(t, "nothing in it", equal[struct{}], struct{}{}, struct{}{}, struct{}{})
	kinds(t, "array", equal[[3]int], [3]int{}, [3]int{1, 2, 3})
	kinds(t, "pointer", equal[*int], &one, nil, &other, &one)
	kinds[any](t, "any", equal[any], nil, 1, "a", 1.5, pair{"b", 2}, nil)
	kinds(t, "error", equal[error], nil, wrong, nil)
	kinds(t, "errno", equal[api.Errno], api.OK, api.EFULL, api.EOVER)
	kinds(t, "channel", equal[chan int], nil, make(chan int), make(chan int, 1))
	kinds(t, "another ord", equal[*ord.Ord[int]], ord.New[int](1), nil, ord.New[int](1))
	kinds(t, "float", func(a, b float64) bool { return math.Float64bits(a) == math.Float64bits(b) }, math.NaN(), 0, math.Copysign(0, -1), math.Inf(1))
}

func TestGreatThings(t *testing.T) {
	type great [1<<16 + 1]byte
	a, b := new(great), new(great)
	a[0], b[len(b)-1] = 1, 2
	o := ord.New[great](2)
	is := map[string]great{"b": *a, "a": *b}
	o.Put("b", *a)
	o.Put("a", *b)
	for name, v := range is {
		if x, ok := o.Get(name); !ok || x != v {
			t.Errorf("a great thing, Get(%q): another, or %v", name, ok)
		}
	}
	if x, ok := o.Get("c"); ok || x != (great{}) {
		t.Error("Get of none is not zero and false")
	}
	if name, x, ok := o.At(1); !ok || name != "b" || x != *a {
		t.Errorf("a great thing, At(1): %q, %v", name, ok)
	}
}

func TestListsAsThings(t *testing.T) {
	kinds(t, "bytes", func(a, b []byte) bool { return slices.Equal(a, b) }, nil, []byte("ab"), []byte{}, []byte{0})
	kinds(t, "maps", func(a, b map[string]int) bool { return len(a) == len(b) && a["a"] == b["a"] }, nil, map[string]int{"a": 1}, map[string]int{})
	kinds(t, "functions", func(a, b func() int) bool { return (a == nil) == (b == nil) && (a == nil || a() == b()) }, nil, func() int { return 1 }, func() int { return 2 })
	o := ord.New[[]int](3)
	for i, l := range [][]int{nil, {}, {}} { // each is there, as any other thing
		if ok, e := o.Put(strconv.Itoa(i), l); !ok || e != api.OK || o.Len() != i+1 {
			t.Errorf("a list of none, number %d: %v, %d", i, ok, e)
		}
	}
	for i := range 3 {
		if x, ok := o.Get(strconv.Itoa(i)); !ok || len(x) != 0 {
			t.Errorf("a list of none, number %d: %v, %v", i, x, ok)
		}
	}
	if ok, e := o.Put("1", []int{4}); ok || e != api.OK {
		t.Errorf("a list in place of none: %v, %d", ok, e)
	}
	if x, ok := o.Get("1"); !ok || !slices.Equal(x, []int{4}) {
		t.Errorf("a list in place of none: %v, %v", x, ok)
	}
}

// What is kept is what was put: not what the caller's variable, or an answer, has later.
func TestThingsAreValues(t *testing.T) {
	o := ord.New[[2]int](2)
	x := [2]int{1, 2}
	o.Put("a", x)
	x[0] = 9
	o.Put("b", x)
	x[1] = 9
	y, _ := o.Get("a")
	y[0] = 8
	_, z, _ := o.At(1)
	z[0] = 8
	check(t, "written over", o, map[string][2]int{"a": {1, 2}, "b": {9, 2}})
	if z != [2]int{8, 2} || y != [2]int{8, 2} {
		t.Error("an answer is not the caller's own")
	}
	o.Put("b", [2]int{3, 4}) // an answer does not hang on what comes later
	if z != [2]int{8, 2} {
		t.Errorf("an answer was changed: %v", z)
	}
}

// Nothing changes a list that is kept, nor its spare room.
func TestLeavesThings(t *testing.T) {
	room := []byte("abcdef")
	o := ord.New[[]byte](2)
	o.Put("a", room[:2])
	o.Put("b", room[3:4])
	o.Put("c", room)
	o.Put("a", room[1:2])
	o.Get("b")
	o.At(0)
	o.Drop("a")
	o.Drop("b")
	if string(room) != "abcdef" {
		t.Errorf("a thing was changed: %q", room)
	}
}

// fill puts new things by the names, and tells them so that they may go.
func fill(o *ord.Ord[*[64]byte], names ...string) []weak.Pointer[[64]byte] {
	var l []weak.Pointer[[64]byte]
	for _, name := range names {
		x := new([64]byte)
		o.Put(name, x)
		l = append(l, weak.Make(x))
	}
	return l
}

// What was dropped, replaced or refused is kept no longer.
func TestLetsGo(t *testing.T) {
	o := ord.New[*[64]byte](4)
	first := fill(o, "a", "b", "c", "d")
	refused := fill(o, "e")
	second := fill(o, "b")
	o.Drop("a")
	o.Drop("d")
	runtime.GC()
	if first[0].Value() != nil || first[3].Value() != nil {
		t.Error("what was dropped is kept")
	}
	if first[1].Value() != nil || refused[0].Value() != nil {
		t.Error("what was replaced, or refused, is kept")
	}
	if first[2].Value() == nil || second[0].Value() == nil {
		t.Error("what is there is gone")
	}
	runtime.KeepAlive(o)
}

func TestApart(t *testing.T) {
	a, b := ord.New[int](2), ord.New[int](3)
	a.Put("x", 1)
	b.Put("x", 2)
	a.Put("y", 3)
	if ok, e := a.Put("z", 4); ok || e != api.EFULL {
		t.Errorf("the one is full: %v, %d", ok, e)
	}
	check(t, "the one", a, map[string]int{"x": 1, "y": 3})
	check(t, "the other", b, map[string]int{"x": 2})
	b.Drop("x")
	check(t, "the one, the other was emptied", a, map[string]int{"x": 1, "y": 3})
}

func TestSideBySide(t *testing.T) {
	var all sync.WaitGroup
	wrong := make([]bool, 8)
	for i := range wrong {
		all.Go(func() {
			o := ord.New[int](i + 1)
			for k := range 500 {
				ok, e := o.Put(strconv.Itoa(k), k)
				name, v, there := o.At(0)
				if !ok || e != api.OK || !there || v != k || !o.Drop(name) || o.Len() != 0 {
					wrong[i] = true
				}
			}
		})
	}
	all.Wait()
	for i, w := range wrong {
		if w {
			t.Errorf("worker %d", i)
		}
	}
}

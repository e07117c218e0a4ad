package clock_test

import (
	"math"
	"math/rand"
	"slices"
	"sync"
	"testing"

	"warrener/clock"
)

// most is how many rows an index may have, written out.
const most = 4096

// numbers are such as are neither marks nor hands of a short dial, though many of them
// would be in their lowest bits.
func numbers() []int {
	l := []int{-1, -2, -3, 3, 4, 5, 255, 256, 257, math.MinInt, math.MinInt + 1, math.MinInt + 2, math.MaxInt - 2, math.MaxInt - 1, math.MaxInt}
	for bit := 4; bit < 63; bit++ {
		for off := range 4 {
			l = append(l, 1<<bit+off, -1<<bit+off)
		}
	}
	return l
}

// dials calls f with each dial of so many rows.
func dials(n int, f func(dial []int)) {
	dial := make([]int, n)
	for {
		f(dial)
		i := 0
		for i < n && dial[i] == 2 {
			dial[i] = 0
			i++
		}
		if i == n {
			return
		}
		dial[i]++
	}
}

// filled is a dial with the same mark in each row.
func filled(n, mark int) []int { return slices.Repeat([]int{mark}, n) }

// line is a dial as a row that waits: whoever is at its front is at the hand, and whoever
// the hand passes waits again at the end.
type line struct{ rows, marks []int }

func newLine(dial []int, hand int) *line {
	var l line
	for row := hand; row < len(dial); row++ {
		l.wait(row, dial[row])
	}
	for row := 0; row < hand; row++ {
		l.wait(row, dial[row])
	}
	return &l
}

func (l *line) wait(row, mark int) {
	l.rows, l.marks = append(l.rows, row), append(l.marks, mark)
}

// step takes the front one, and tells whether it goes.
func (l *line) step() (row int, goes bool) {
	row, mark := l.rows[0], l.marks[0]
	l.rows, l.marks = l.rows[1:], l.marks[1:]
	switch mark {
	case 2:
		l.wait(row, 1)
		return row, false
	case 1:
		l.wait(row, 0)
		return row, true
	}
	l.wait(row, 0)
	return row, false
}

// left tells whether there is one that may go.
func (l *line) left() bool { return slices.Contains(l.marks, 1) || slices.Contains(l.marks, 2) }

// goes is who should go next, with the dial then and the hand then; only if one is left.
func (l *line) goes() (row int, marks []int, to int) {
	gone := false
	for !gone {
		row, gone = l.step()
	}
	marks = make([]int, len(l.rows))
	for i, r := range l.rows {
		marks[r] = l.marks[i]
	}
	return row, marks, l.rows[0]
}

// next holds what Next tells of what is Good, and tells it.
func next(t *testing.T, dial []int, hand int) (row int, marks []int, to int, ok bool) {
	t.Helper()
	before := slices.Clone(dial)
	row, marks, to, ok = clock.Next(dial, hand)
	if !slices.Equal(dial, before) {
		t.Fatalf("Next of %v, %d made of it %v", before, hand, dial)
	}
	l := newLine(dial, hand)
	if !l.left() {
		none(t, dial, hand)
		return row, marks, to, ok
	}
	wantRow, wantMarks, wantTo := l.goes()
	if !ok || row != wantRow || !slices.Equal(marks, wantMarks) || to != wantTo {
		t.Fatalf("Next of %v, %d: %d, %v, %d, %v, not %d, %v, %d", dial, hand, row, marks, to, ok, wantRow, wantMarks, wantTo)
	}
	return row, marks, to, ok
}

// goes holds what Next tells against what is written out.
func goes(t *testing.T, dial []int, hand, row int, marks []int, to int) {
	t.Helper()
	r, m, h, ok := next(t, dial, hand)
	if !ok || r != row || !slices.Equal(m, marks) || h != to {
		t.Fatalf("Next of %v, %d: %d, %v, %d, %v, not %d, %v, %d", dial, hand, r, m, h, ok, row, marks, to)
	}
}

// none holds that Next tells nothing.
func none(t *testing.T, dial []int, hand int) {
	t.Helper()
	if row, marks, to, ok := clock.Next(dial, hand); row != 0 || len(marks) != 0 || to != 0 || ok {
		t.Fatalf("Next of %v, %d: %d, %v, %d, %v", dial, hand, row, marks, to, ok)
	}
}

// order holds what Order tells of what is Good, and tells it.
func order(t *testing.T, dial []int, hand int) []int {
	t.Helper()
	before := slices.Clone(dial)
	have := clock.Order(dial, hand)
	if !slices.Equal(dial, before) {
		t.Fatalf("Order of %v, %d made of it %v", before, hand, dial)
	}
	var want []int
	for l := newLine(dial, hand); l.left(); {
		row, _, _ := l.goes()
		want = append(want, row)
	}
	if !slices.Equal(have, want) {
		t.Fatalf("Order of %v, %d: %v, not %v", dial, hand, have, want)
	}
	return have
}

// inOrder holds what Order tells against what is written out.
func inOrder(t *testing.T, dial []int, hand int, want ...int) {
	t.Helper()
	if have := order(t, dial, hand); !slices.Equal(have, want) {
		t.Fatalf("Order of %v, %d: %v, not %v", dial, hand, have, want)
	}
}

// good holds that a dial is, and what it tells of it.
func good(t *testing.T, dial []int, hand int) {
	t.Helper()
	before := slices.Clone(dial)
	if !clock.Good(dial, hand) {
		t.Fatalf("Good of %v, %d: false", dial, hand)
	}
	if !slices.Equal(dial, before) {
		t.Fatalf("Good of %v, %d made of it %v", before, hand, dial)
	}
}

// wrong holds what all calls tell of what is not Good.
func wrong(t *testing.T, dial []int, hand int) {
	t.Helper()
	before := slices.Clone(dial)
	if clock.Good(dial, hand) {
		t.Fatalf("Good of %v, %d: true", dial, hand)
	}
	none(t, dial, hand)
	if l := clock.Order(dial, hand); len(l) != 0 {
		t.Fatalf("Order of %v, %d, that is not Good: %v", dial, hand, l)
	}
	if !slices.Equal(dial, before) {
		t.Fatalf("of %v, %d, that is not Good, was made %v", before, hand, dial)
	}
}

// again asks Next with what the last Next told until none is left, and holds that against
// Order.
func again(t *testing.T, dial []int, hand int) {
	t.Helper()
	var went []int
	marks, at := slices.Clone(dial), hand
	for range len(dial) + 1 {
		row, then, to, ok := clock.Next(marks, at)
		if !ok {
			break
		}
		if !clock.Good(then, to) || to == len(dial) {
			t.Fatalf("Next of %v, %d: %v, %d", marks, at, then, to)
		}
		went = append(went, row)
		marks, at = then, to
	}
	none(t, marks, at)
	if !slices.Equal(marks, filled(len(dial), 0)) {
		t.Fatalf("of %v, %d there is left %v", dial, hand, marks)
	}
	if have := clock.Order(dial, hand); !slices.Equal(have, went) {
		t.Fatalf("Order of %v, %d: %v, but Next tells %v", dial, hand, have, went)
	}
}

// all holds all that is told of what is Good.
func all(t *testing.T, dial []int, hand int) {
	t.Helper()
	good(t, dial, hand)
	next(t, dial, hand)
	order(t, dial, hand)
}

func TestExample(t *testing.T) {
	row, marks, to, ok := clock.Next([]int{2, 1, 1}, 0)
	if row != 1 || !slices.Equal(marks, []int{1, 0, 1}) || to != 2 || !ok {
		t.Errorf("Next(2 1 1, 0): %d, %v, %d, %v", row, marks, to, ok)
	}
}

// All dials of up to eight rows, at all hands; short ones followed to their ends as well.
func TestAllDials(t *testing.T) {
	for n := range 9 {
		dials(n, func(dial []int) {
			for hand := range n + 1 {
				all(t, dial, hand)
				if n < 8 {
					again(t, dial, hand)
				}
			}
			wrong(t, dial, -1)
			wrong(t, dial, n+1)
		})
	}
}

// A dial all of whose rows go, step by step.
func TestStepByStep(t *testing.T) {
	dial := []int{2, 1, 0, 2, 1, 2}
	inOrder(t, dial, 3, 4, 1, 3, 5, 0)
	goes(t, dial, 3, 4, []int{2, 1, 0, 1, 0, 2}, 5)
	goes(t, []int{2, 1, 0, 1, 0, 2}, 5, 1, []int{1, 0, 0, 1, 0, 1}, 2)
	goes(t, []int{1, 0, 0, 1, 0, 1}, 2, 3, []int{1, 0, 0, 0, 0, 1}, 4)
	goes(t, []int{1, 0, 0, 0, 0, 1}, 4, 5, []int{1, 0, 0, 0, 0, 0}, 0)
	goes(t, []int{1, 0, 0, 0, 0, 0}, 0, 0, []int{0, 0, 0, 0, 0, 0}, 1)
	none(t, []int{0, 0, 0, 0, 0, 0}, 1)
	again(t, dial, 3)
}

// The first 1 goes, and those behind it stay.
func TestFirstGoes(t *testing.T) {
	goes(t, []int{1, 1, 1, 1}, 0, 0, []int{0, 1, 1, 1}, 1)
	goes(t, []int{1, 1, 1, 1}, 1, 1, []int{1, 0, 1, 1}, 2)
	goes(t, []int{1, 1, 1, 1}, 2, 2, []int{1, 1, 0, 1}, 3)
	goes(t, []int{1, 2, 2, 1}, 1, 3, []int{1, 1, 1, 0}, 0)
	goes(t, []int{1, 2, 2, 2}, 1, 0, []int{0, 1, 1, 1}, 1)
}

// The 2s that the hand passes are 1s, those behind the row that goes and those ahead of the
// hand are 2s still.
func TestPassed(t *testing.T) {
	goes(t, []int{2, 2, 2, 1, 2, 2}, 0, 3, []int{1, 1, 1, 0, 2, 2}, 4)
	goes(t, []int{2, 2, 2, 1, 2, 2}, 1, 3, []int{2, 1, 1, 0, 2, 2}, 4)
	goes(t, []int{2, 2, 2, 1, 2, 2}, 2, 3, []int{2, 2, 1, 0, 2, 2}, 4)
	goes(t, []int{2, 2, 2, 1, 2, 2}, 3, 3, []int{2, 2, 2, 0, 2, 2}, 4)
	goes(t, []int{2, 2, 2, 1, 2, 2}, 4, 3, []int{1, 1, 1, 0, 1, 1}, 4)
	goes(t, []int{2, 2, 2, 1, 2, 2}, 5, 3, []int{1, 1, 1, 0, 2, 1}, 4)
	goes(t, []int{2, 2, 2, 1, 2, 2}, 6, 3, []int{1, 1, 1, 0, 2, 2}, 4)
	goes(t, []int{2, 1, 2, 2, 0, 2}, 3, 1, []int{1, 0, 2, 1, 0, 1}, 2)
}

// A row that was passed goes only when the hand comes round again.
func TestUsedGoLater(t *testing.T) {
	inOrder(t, []int{2, 1, 1}, 0, 1, 2, 0)
	inOrder(t, []int{1, 2, 1, 2, 1}, 0, 0, 2, 4, 1, 3)
	inOrder(t, []int{1, 2, 1, 2, 1}, 1, 2, 4, 0, 1, 3)
	inOrder(t, []int{1, 2, 1, 2, 1}, 2, 2, 4, 0, 3, 1)
	inOrder(t, []int{1, 2, 1, 2, 1}, 4, 4, 0, 2, 1, 3)
	inOrder(t, []int{1, 2, 1, 2, 1}, 5, 0, 2, 4, 1, 3)
	inOrder(t, []int{2, 2, 0, 2, 1}, 3, 4, 3, 0, 1)
}

func TestNoRows(t *testing.T) {
	for _, dial := range [][]int{nil, {}, make([]int, 0, 9)} {
		good(t, dial, 0)
		none(t, dial, 0)
		inOrder(t, dial, 0)
		wrong(t, dial, 1)
		wrong(t, dial, -1)
		for _, hand := range numbers() {
			wrong(t, dial, hand)
		}
	}
}

func TestOneRow(t *testing.T) {
	for hand := range 2 {
		for mark := range 3 {
			good(t, []int{mark}, hand)
		}
		none(t, []int{0}, hand)
		inOrder(t, []int{0}, hand)
		for mark := 1; mark < 3; mark++ {
			goes(t, []int{mark}, hand, 0, []int{0}, 0)
			inOrder(t, []int{mark}, hand, 0)
		}
	}
}

// Nobody goes where nobody is, however many rows there are.
func TestAllEmpty(t *testing.T) {
	for n := range 40 {
		for hand := range n + 1 {
			good(t, filled(n, 0), hand)
			none(t, filled(n, 0), hand)
			inOrder(t, filled(n, 0), hand)
		}
	}
}

// The row at the hand goes, and then each behind it, round the end.
func TestAllThere(t *testing.T) {
	for n := 1; n < 40; n++ {
		for hand := range n + 1 {
			dial, first := filled(n, 1), hand%n
			marks := slices.Clone(dial)
			marks[first] = 0
			good(t, dial, hand)
			goes(t, dial, hand, first, marks, (first+1)%n)
			var l []int
			for i := range n {
				l = append(l, (first+i)%n)
			}
			inOrder(t, dial, hand, l...)
			again(t, dial, hand)
		}
	}
}

// The hand goes round once, and takes the first that it passed; nobody is used then.
func TestAllUsed(t *testing.T) {
	for n := 1; n < 40; n++ {
		for hand := range n + 1 {
			dial, first := filled(n, 2), hand%n
			marks := filled(n, 1)
			marks[first] = 0
			good(t, dial, hand)
			goes(t, dial, hand, first, marks, (first+1)%n)
			inOrder(t, dial, hand, order(t, filled(n, 1), hand)...)
			again(t, dial, hand)
		}
	}
	goes(t, []int{0, 2, 0, 2, 0}, 2, 3, []int{0, 1, 0, 0, 0}, 4)
	goes(t, []int{0, 2, 0, 2, 0}, 4, 1, []int{0, 0, 0, 1, 0}, 2)
}

// A hand at the last row, and one behind it, which is one at the first row.
func TestHandAtTheEnd(t *testing.T) {
	goes(t, []int{1, 1, 1}, 2, 2, []int{1, 1, 0}, 0)
	goes(t, []int{1, 1, 1}, 3, 0, []int{0, 1, 1}, 1)
	goes(t, []int{1, 2, 2}, 2, 0, []int{0, 2, 1}, 1)
	goes(t, []int{1, 2, 2}, 3, 0, []int{0, 2, 2}, 1)
	inOrder(t, []int{1, 2, 1}, 2, 2, 0, 1)
	inOrder(t, []int{1, 2, 1}, 3, 0, 2, 1)
	for n := 1; n < 7; n++ {
		dials(n, func(dial []int) {
			row, marks, to, ok := clock.Next(dial, n)
			if r, m, h, o := clock.Next(dial, 0); r != row || !slices.Equal(m, marks) || h != to || o != ok {
				t.Fatalf("Next of %v behind the last row: %d, %v, %d, %v", dial, row, marks, to, ok)
			}
			if !slices.Equal(clock.Order(dial, n), clock.Order(dial, 0)) {
				t.Fatalf("Order of %v behind the last row: %v", dial, clock.Order(dial, n))
			}
		})
	}
}

// The hand is never behind the last row when that has gone.
func TestLastRowGoes(t *testing.T) {
	for n := 1; n < 40; n++ {
		for mark := 1; mark < 3; mark++ {
			dial := filled(n, 0)
			dial[n-1] = mark
			for hand := range n + 1 {
				goes(t, dial, hand, n-1, filled(n, 0), 0)
			}
			dial = filled(n, 2)
			dial[n-1] = 1
			for hand := range n {
				marks := append(filled(hand, 2), filled(n-hand, 1)...)
				marks[n-1] = 0
				goes(t, dial, hand, n-1, marks, 0)
			}
		}
	}
}

// Empty rows are passed, wherever they are, and stay empty.
func TestEmptyRows(t *testing.T) {
	goes(t, []int{1, 0, 1}, 1, 2, []int{1, 0, 0}, 0)                   // at the hand
	goes(t, []int{0, 0, 1, 1}, 2, 2, []int{0, 0, 0, 1}, 3)             // ahead of it
	goes(t, []int{1, 2, 0, 0, 1}, 1, 4, []int{1, 1, 0, 0, 0}, 0)       // behind it
	goes(t, []int{0, 0, 2, 0, 1, 0}, 0, 4, []int{0, 0, 1, 0, 0, 0}, 5) // at the beginning and the end
	goes(t, []int{0, 1, 0, 2, 0}, 3, 1, []int{0, 0, 0, 1, 0}, 2)
	goes(t, []int{0, 1, 0, 2, 0}, 5, 1, []int{0, 0, 0, 2, 0}, 2)
	goes(t, []int{0, 0, 0, 1, 0, 0}, 4, 3, []int{0, 0, 0, 0, 0, 0}, 4)
	inOrder(t, []int{0, 2, 0, 1, 0, 0, 1, 0}, 4, 6, 3, 1)
	inOrder(t, []int{0, 2, 0, 2, 0, 0, 2, 0}, 2, 3, 6, 1)
	inOrder(t, []int{0, 2, 0, 2, 0, 0, 2, 0}, 7, 1, 3, 6)
}

// One that is there among many empty rows, at each place, from each hand.
func TestAloneAmongEmpty(t *testing.T) {
	for _, n := range []int{2, 3, 17, 64} {
		for place := range n {
			for hand := range n + 1 {
				for mark := 1; mark < 3; mark++ {
					dial := filled(n, 0)
					dial[place] = mark
					goes(t, dial, hand, place, filled(n, 0), (place+1)%n)
					inOrder(t, dial, hand, place)
				}
			}
		}
	}
	for _, place := range []int{0, 1, 2047, most - 2, most - 1} {
		for _, hand := range []int{0, 1, place, place + 1, most - 1, most} {
			for mark := 1; mark < 3; mark++ {
				dial := filled(most, 0)
				dial[place] = mark
				goes(t, dial, hand, place, filled(most, 0), (place+1)%most)
				inOrder(t, dial, hand, place)
			}
		}
	}
}

// As many rows as an index may have, and more than any has.
func TestLongDials(t *testing.T) {
	r := rand.New(rand.NewSource(21))
	for _, n := range []int{most - 1, most, most + 1, 70000} {
		dial := make([]int, n)
		for kind := range 4 {
			for row := range dial {
				dial[row] = kind
				if kind == 3 {
					dial[row] = r.Intn(3)
				}
			}
			for _, hand := range []int{0, 1, n / 3, n - 1, n} {
				good(t, dial, hand)
				wrong(t, dial, -1-hand)
				wrong(t, dial, n+1+hand)
				next(t, dial, hand)
				rounds(t, dial, hand)
			}
		}
	}
	for mark := range 3 {
		again(t, filled(most, mark), 1000)
	}
	dial := filled(most, 0)
	for row := range dial {
		dial[row] = r.Intn(3)
	}
	again(t, dial, 4000)
}

// rounds holds Order against the rows that are 1, and then those that are 2, each from the
// hand on: the other reckoning takes too long of a long dial.
func rounds(t *testing.T, dial []int, hand int) {
	t.Helper()
	var want []int
	for mark := 1; mark < 3; mark++ {
		for row := hand; row < len(dial); row++ {
			if dial[row] == mark {
				want = append(want, row)
			}
		}
		for row := range hand {
			if dial[row] == mark {
				want = append(want, row)
			}
		}
	}
	if have := clock.Order(dial, hand); !slices.Equal(have, want) {
		t.Fatalf("Order of %d rows, %d: %d of them, from %v on", len(dial), hand, len(have), have[:min(len(have), 9)])
	}
}

// A million rows: Order of them ends soon.
func TestMillionRows(t *testing.T) {
	const n = 1 << 20
	for mark := range 3 {
		dial := filled(n, mark)
		for _, hand := range []int{0, 5, n} {
			rounds(t, dial, hand)
			row, marks, to, ok := clock.Next(dial, hand)
			if mark == 0 {
				none(t, dial, hand)
			} else if row != hand%n || len(marks) != n || marks[row] != 0 || marks[row+1] != 1 || to != row+1 || !ok {
				t.Fatalf("Next of %d rows, %d: %d, %d marks, %d, %v", n, hand, row, len(marks), to, ok)
			}
		}
	}
}

// A mark that is none, in any row, alone or beside others, whatever the hand.
func TestWrongMarks(t *testing.T) {
	for _, mark := range numbers() {
		wrong(t, []int{mark}, 0)
		wrong(t, []int{mark}, 1)
		for n := 2; n < 6; n++ {
			for _, rest := range []int{0, 1, 2, mark} {
				for place := range n {
					dial := filled(n, rest)
					dial[place] = mark
					for hand := range n + 1 {
						wrong(t, dial, hand)
					}
					wrong(t, dial, -1)
					wrong(t, dial, n+1)
				}
			}
		}
	}
}

// A mark that is none in each row of each dial: no other row makes up for it.
func TestOneWrongMark(t *testing.T) {
	for n := 1; n < 6; n++ {
		dials(n, func(l []int) {
			dial := slices.Clone(l)
			for place, was := range dial {
				for _, mark := range []int{-1, 3, math.MinInt, math.MaxInt} {
					dial[place] = mark
					for hand := range n + 1 {
						wrong(t, dial, hand)
					}
				}
				dial[place] = was
			}
		})
	}
	for _, place := range []int{0, 1, 2000, most - 2, most - 1} {
		for _, mark := range []int{-1, 3, math.MinInt, math.MaxInt} {
			for rest := range 3 {
				dial := filled(most, rest)
				dial[place] = mark
				wrong(t, dial, 0)
				wrong(t, dial, place)
				wrong(t, dial, most)
			}
		}
	}
}

// Two wrong marks that would be good ones together.
func TestWrongMarksTogether(t *testing.T) {
	wrong(t, []int{-1, 3}, 0)
	wrong(t, []int{3, -1}, 1)
	wrong(t, []int{-1, 1, 1, 3}, 1)
	wrong(t, []int{math.MinInt, math.MaxInt, 1}, 2)
}

func TestWrongHands(t *testing.T) {
	for n := range 8 {
		for mark := range 3 {
			dial := filled(n, mark)
			wrong(t, dial, -1)
			wrong(t, dial, -n-1)
			wrong(t, dial, n+1)
			wrong(t, dial, n+2)
			for _, hand := range numbers() {
				if hand < 0 || hand > n {
					wrong(t, dial, hand)
				} else {
					good(t, dial, hand)
				}
			}
		}
	}
	dials(4, func(dial []int) {
		for _, hand := range []int{-1, -4, -5, 5, 8, math.MinInt, math.MaxInt} {
			wrong(t, dial, hand)
		}
	})
	room := []int{1, 1, 1, 1} // rows behind the last one are none
	wrong(t, room[:2], 3)
	wrong(t, room[:2], 4)
	wrong(t, room[:0], 1)
}

// overwrite writes over a list, spare room too.
func overwrite(l []int) {
	l = l[:cap(l)]
	for i := range l {
		l[i] = -9
	}
}

// A dial is as it was, spare room too; what is told of it is new memory, spare room too.
func TestNewMemory(t *testing.T) {
	for n := range 7 {
		dials(n, func(dial []int) {
			room := append(slices.Clone(dial), 1, 2, 0, 1)
			before := slices.Clone(room)
			for hand := range n + 1 {
				shares(t, room, before, n, hand)
			}
		})
	}
}

// shares holds that what is told of the first n of a list shares nothing with it, nor with
// what is told of it a second time, and that nothing behind the n counts.
func shares(t *testing.T, room, before []int, n, hand int) {
	t.Helper()
	dial := room[:n]
	all(t, dial, hand)
	row, marks, to, ok := clock.Next(dial, hand)
	l := clock.Order(dial, hand)
	wantMarks, wantOrder := slices.Clone(marks), slices.Clone(l)
	secondRow, second, secondTo, secondOK := clock.Next(dial, hand)
	secondOrder := clock.Order(dial, hand)
	overwrite(marks)
	overwrite(l)
	if !slices.Equal(room, before) {
		t.Fatalf("what is told of %v, %d shares memory with it: %v", before[:n], hand, room)
	}
	overwrite(room)
	if secondRow != row || secondTo != to || secondOK != ok || !slices.Equal(second, wantMarks) || !slices.Equal(secondOrder, wantOrder) {
		t.Fatalf("what is told of %v, %d a second time: %d, %v, %d, %v, %v", before[:n], hand, secondRow, second, secondTo, secondOK, secondOrder)
	}
	copy(room, before)
	all(t, dial, hand)
}

// What is not Good is not changed either, spare room too.
func TestRefusedChangesNothing(t *testing.T) {
	for _, bad := range []int{-1, 3} {
		room := []int{2, 1, bad, 2, 1, 2, 2}
		before := slices.Clone(room)
		for n := range 6 {
			for hand := -1; hand < 8; hand++ {
				if n > 2 || hand < 0 || hand > n {
					wrong(t, room[:n], hand)
				} else {
					all(t, room[:n], hand)
				}
				if !slices.Equal(room, before) {
					t.Fatalf("the first %d of %v, %d: made %v", n, before, hand, room)
				}
			}
		}
	}
}

// Dials at random, long and short, with many or few of each mark.
func TestAnyDials(t *testing.T) {
	r := rand.New(rand.NewSource(2121))
	for range 4000 {
		n := r.Intn(1 + r.Intn(80))
		most := []int{1 + r.Intn(9), 1 + r.Intn(9), 1 + r.Intn(9)}
		dial := make([]int, n)
		for row := range dial {
			x := r.Intn(most[0] + most[1] + most[2])
			switch {
			case x >= most[0]+most[1]:
				dial[row] = 2
			case x >= most[0]:
				dial[row] = 1
			}
		}
		hand := r.Intn(n + 1)
		all(t, dial, hand)
		again(t, dial, hand)
		if n > 0 {
			dial[r.Intn(n)] = []int{-1, 3, int(r.Uint32()) + 3, -int(r.Uint32()) - 1}[r.Intn(4)]
			wrong(t, dial, hand)
		}
	}
}

// Nothing is kept from call to call: the same is told of the same, whatever is asked between.
func TestKeepsNothing(t *testing.T) {
	a, b := []int{2, 1, 0, 2}, []int{0, 2, 2}
	for range 5 {
		goes(t, a, 3, 1, []int{1, 0, 0, 1}, 2)
		inOrder(t, a, 3, 1, 3, 0)
		goes(t, b, 2, 2, []int{0, 1, 0}, 0)
		inOrder(t, b, 2, 2, 1)
		wrong(t, a, 5)
		wrong(t, []int{1, 3}, 0)
		none(t, []int{0, 0}, 1)
	}
}

func TestSideBySide(t *testing.T) {
	told := make([]bool, 8)
	dial := []int{2, 1, 0, 2, 1, 1, 0, 2}
	var wg sync.WaitGroup
	for i := range told {
		wg.Go(func() {
			want := newLine(dial, i)
			wantRow, wantMarks, wantTo := want.goes()
			for range 2000 {
				row, marks, to, ok := clock.Next(dial, i)
				l := clock.Order(dial, i)
				if row != wantRow || !slices.Equal(marks, wantMarks) || to != wantTo || !ok || len(l) != 6 || l[0] != row || !clock.Good(dial, i) {
					told[i] = true
				}
				overwrite(marks)
				overwrite(l)
			}
		})
	}
	wg.Wait()
	if slices.Contains(told, true) {
		t.Errorf("workers that were told another thing: %v", told)
	}
}

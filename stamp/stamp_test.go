package stamp

import (
	"math"
	"math/rand"
	"slices"
	"testing"

	"kith/api"
)

// edges are numbers next to each bound, of heights, of replicas and of int, and some that are none of either.
var edges = []int{math.MinInt, math.MinInt + 1, -1 << 32, -2, -1, 0, 1, 2, 4, 5, api.MaxHeight - 1, api.MaxHeight, api.MaxHeight + 1, 1 << 32, 1<<32 + 1, math.MaxInt - 1, math.MaxInt}

// pairs are the stamps of which both numbers are some of these.
func pairs(numbers ...int) []api.Stamp {
	var l []api.Stamp
	for _, height := range numbers {
		for _, r := range numbers {
			l = append(l, api.Stamp{Height: height, R: r})
		}
	}
	return l
}

// rows calls f with each row of up to n of these stamps.
func rows(of []api.Stamp, n int, f func([]api.Stamp)) {
	var longer func(row []api.Stamp)
	longer = func(row []api.Stamp) {
		f(row)
		if len(row) == n {
			return
		}
		for _, s := range of {
			longer(append(slices.Clone(row), s))
		}
	}
	longer(nil)
}

// wantedLess is P4.1's Less word by word.
func wantedLess(a, b api.Stamp) bool {
	return a.Height < b.Height || a.Height == b.Height && a.R < b.R
}

// wantedLast is P4.1's Last word by word: each one is held against all.
func wantedLast(l []api.Stamp) int {
	for i, a := range l {
		if !slices.ContainsFunc(l, func(b api.Stamp) bool { return wantedLess(a, b) }) {
			return i
		}
	}
	return -1
}

// checkLast holds Last of l against what P4.1 says, and, by R7, that l is left as it was.
func checkLast(t *testing.T, l []api.Stamp) {
	t.Helper()
	was := slices.Clone(l)
	if got, want := Last(l), wantedLast(was); got != want {
		t.Errorf("Last of %v is %d instead of %d", was, got, want)
	}
	if !slices.Equal(l, was) {
		t.Errorf("Last made %v of %v", l, was)
	}
}

// P4.1
func TestLessTable(t *testing.T) {
	for _, x := range []struct {
		a, b api.Stamp
		want bool
	}{
		{api.Stamp{}, api.Stamp{}, false},
		{api.Stamp{Height: 3, R: 1}, api.Stamp{Height: 4, R: 0}, true},
		{api.Stamp{Height: 4, R: 0}, api.Stamp{Height: 3, R: 1}, false},
		{api.Stamp{Height: 4, R: 0}, api.Stamp{Height: 4, R: 2}, true},
		{api.Stamp{Height: 4, R: 2}, api.Stamp{Height: 4, R: 0}, false},
		{api.Stamp{Height: 4, R: 2}, api.Stamp{Height: 4, R: 2}, false},
		// The height goes first, whatever the replicas are, and whatever the sum is.
		{api.Stamp{Height: 1, R: 4}, api.Stamp{Height: 2, R: 0}, true},
		{api.Stamp{Height: 2, R: 0}, api.Stamp{Height: 1, R: 4}, false},
		{api.Stamp{Height: 1, R: 0}, api.Stamp{Height: 2, R: 4}, true},
		{api.Stamp{Height: 2, R: 4}, api.Stamp{Height: 1, R: 0}, false},
		{api.Stamp{Height: api.MaxHeight, R: 4}, api.Stamp{Height: api.MaxHeight + 1, R: 0}, true},
		{api.Stamp{Height: api.MaxHeight + 1, R: 0}, api.Stamp{Height: api.MaxHeight, R: 4}, false},
	} {
		if got := Less(x.a, x.b); got != x.want {
			t.Errorf("Less of %v and %v is %v", x.a, x.b, got)
		}
	}
}

// P4.1, by R1: what no event has is compared all the same, and no difference goes round.
func TestLessOfNumbersWithoutBound(t *testing.T) {
	for _, x := range []struct {
		a, b api.Stamp
		want bool
	}{
		{api.Stamp{Height: -1}, api.Stamp{}, true},
		{api.Stamp{}, api.Stamp{Height: -1}, false},
		{api.Stamp{R: -1}, api.Stamp{}, true},
		{api.Stamp{}, api.Stamp{R: -1}, false},
		{api.Stamp{Height: -1, R: 9}, api.Stamp{Height: 0, R: -9}, true},
		{api.Stamp{R: 5}, api.Stamp{R: 1 << 32}, true},
		{api.Stamp{R: 1 << 32}, api.Stamp{R: 5}, false},
		{api.Stamp{Height: math.MinInt}, api.Stamp{Height: math.MaxInt}, true},
		{api.Stamp{Height: math.MaxInt}, api.Stamp{Height: math.MinInt}, false},
		{api.Stamp{Height: math.MinInt}, api.Stamp{Height: 1}, true},
		{api.Stamp{Height: 1}, api.Stamp{Height: math.MinInt}, false},
		{api.Stamp{R: math.MinInt}, api.Stamp{R: math.MaxInt}, true},
		{api.Stamp{R: math.MaxInt}, api.Stamp{R: math.MinInt}, false},
		{api.Stamp{Height: math.MaxInt - 1, R: math.MaxInt}, api.Stamp{Height: math.MaxInt, R: math.MinInt}, true},
	} {
		if got := Less(x.a, x.b); got != x.want {
			t.Errorf("Less of %v and %v is %v", x.a, x.b, got)
		}
	}
}

// P4.1: each stamp against each.
func TestLessOfAllPairs(t *testing.T) {
	l := append(pairs(edges...), pairs(0, 1, 2, 3, 4, 5, 6)...)
	for _, a := range l {
		for _, b := range l {
			if got, want := Less(a, b), wantedLess(a, b); got != want {
				t.Errorf("Less of %v and %v is %v", a, b, got)
			}
		}
	}
}

// P4.2
func TestJustOneIsLess(t *testing.T) {
	l := pairs(edges...)
	for i, a := range l {
		for k, b := range l {
			ab, ba := Less(a, b), Less(b, a)
			if i == k && (ab || ba) {
				t.Errorf("%v is less than itself", a)
			}
			if i != k && ab == ba {
				t.Errorf("%v is less than %v: %v, and the other way about too", a, b, ab)
			}
		}
	}
}

// P4.2: what is less than a lesser one is less: else which one is last would hang on where they stand.
func TestLessGoesOn(t *testing.T) {
	l := pairs(math.MinInt, -1, 0, 1, 4, api.MaxHeight, math.MaxInt)
	for _, a := range l {
		for _, b := range l {
			for _, c := range l {
				if Less(a, b) && Less(b, c) && !Less(a, c) {
					t.Errorf("%v, %v and %v: the first one is not less than the third one", a, b, c)
				}
			}
		}
	}
}

// P4.1
func TestLastTable(t *testing.T) {
	for _, x := range []struct {
		l    []api.Stamp
		want int
	}{
		{nil, -1},
		{[]api.Stamp{}, -1},
		{[]api.Stamp{{}}, 0},
		{[]api.Stamp{{Height: 9, R: 4}}, 0},
		{[]api.Stamp{{Height: 3, R: 1}, {Height: 4, R: 0}, {Height: 4, R: 2}, {Height: 1, R: 4}}, 2},
		// Of the same ones the first one, wherever the others stand.
		{[]api.Stamp{{}, {}}, 0},
		{[]api.Stamp{{Height: 2, R: 1}, {Height: 2, R: 1}, {Height: 2, R: 1}}, 0},
		{[]api.Stamp{{Height: 1}, {Height: 2, R: 1}, {Height: 2}, {Height: 2, R: 1}}, 1},
		{[]api.Stamp{{Height: 2}, {Height: 2, R: 3}, {Height: 2, R: 3}, {Height: 1, R: 4}, {Height: 2, R: 3}}, 1},
		{[]api.Stamp{{Height: 5}, {Height: 4, R: 4}, {Height: 3, R: 4}, {Height: 5}}, 0},
		// At either end.
		{[]api.Stamp{{Height: 3}, {Height: 2, R: 4}, {Height: 1, R: 4}}, 0},
		{[]api.Stamp{{Height: 1, R: 4}, {Height: 2, R: 4}, {Height: 3}}, 2},
		// Below 0: nothing is held against a stamp that does not stand there.
		{[]api.Stamp{{Height: -1}}, 0},
		{[]api.Stamp{{Height: -3, R: 4}, {Height: -1, R: -2}, {Height: -1, R: -1}, {Height: -2}}, 2},
		{[]api.Stamp{{R: -2}, {R: -1}}, 1},
		{[]api.Stamp{{Height: math.MinInt, R: math.MinInt}}, 0},
		{[]api.Stamp{{Height: math.MinInt, R: math.MinInt}, {Height: math.MinInt, R: math.MinInt}}, 0},
		{[]api.Stamp{{Height: math.MinInt, R: math.MaxInt}, {Height: math.MaxInt, R: math.MinInt}, {Height: math.MaxInt, R: math.MaxInt}, {}}, 2},
	} {
		if got := Last(x.l); got != x.want {
			t.Errorf("Last of %v is %d instead of %d", x.l, got, x.want)
		}
	}
}

// P4.1
func TestLastOfAllSmallRows(t *testing.T) {
	rows(pairs(0, 1), 6, func(l []api.Stamp) { checkLast(t, l) })
	rows(pairs(-1, 0, 1), 4, func(l []api.Stamp) { checkLast(t, l) })
	rows(pairs(math.MinInt, -1, 0, math.MaxInt), 3, func(l []api.Stamp) { checkLast(t, l) })
}

// P4.1: rows by chance, with and without the same ones.
func TestLastOfLongRows(t *testing.T) {
	r := rand.New(rand.NewSource(4))
	for range 500 {
		l := make([]api.Stamp, r.Intn(60))
		for i := range l {
			l[i] = api.Stamp{Height: edges[r.Intn(len(edges))], R: r.Intn(api.Replicas)}
		}
		checkLast(t, l)
		for i := range l {
			l[i].Height = -1 - r.Intn(api.MaxHeight)
		}
		checkLast(t, l)
	}
}

// P4.1: a row of as many as a replica's events may be, with the latest one at each of some places.
func TestLastOfVeryLongRow(t *testing.T) {
	l := make([]api.Stamp, api.MaxEvents)
	for i := range l {
		l[i] = api.Stamp{Height: i % 1000, R: i % api.Replicas}
	}
	for _, i := range []int{len(l) - 1, len(l) / 2, 1, 0} {
		l[i] = api.Stamp{Height: api.MaxHeight, R: 2}
		if got := Last(l); got != i {
			t.Errorf("Last of the long row is %d instead of %d", got, i)
		}
	}
}

// P4.1, by R6: the same row has the same last one each time, whatever was asked in between.
func TestLastHangsOnItsRowAlone(t *testing.T) {
	l := []api.Stamp{{Height: 1}, {Height: 3}, {Height: 2}}
	for range 3 {
		if got := Last(l); got != 1 {
			t.Errorf("Last of %v is %d", l, got)
		}
		if got := Last([]api.Stamp{{Height: 9}}); got != 0 {
			t.Errorf("Last of one is %d", got)
		}
		if got := Last(nil); got != -1 {
			t.Errorf("Last of none is %d", got)
		}
	}
}

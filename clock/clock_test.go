package clock

import (
	"math"
	"math/rand"
	"testing"

	"kith/api"
)

// noReplicas are numbers that no replica has, on both sides.
var noReplicas = []int{-1, -2, -5, 5, 6, 1 << 32, 1<<32 + 1, math.MinInt, math.MaxInt}

// few are the clocks of which each number is one of these.
func few(numbers ...int) []api.Clock {
	l := []api.Clock{{}}
	for r := range api.Replicas {
		var longer []api.Clock
		for _, c := range l {
			for _, n := range numbers {
				c[r] = n
				longer = append(longer, c)
			}
		}
		l = longer
	}
	return l
}

// chance are clocks whose numbers are next to each bound, and some that are none at all.
func chance(n int) []api.Clock {
	edges := []int{math.MinInt, math.MinInt + 1, -1 << 32, -2, -1, 0, 1, 2, 3, 1000, api.MaxEvents - 1, api.MaxEvents, api.MaxEvents + 1, 1 << 32, math.MaxInt - 1, math.MaxInt}
	r := rand.New(rand.NewSource(4))
	l := make([]api.Clock, n)
	for i := range l {
		for k := range l[i] {
			l[i][k] = edges[r.Intn(len(edges))]
		}
	}
	return l
}

// seen are the marks of what a clock has seen, told one by one.
func seen(c api.Clock) map[api.Mark]bool {
	m := map[api.Mark]bool{}
	for r, most := range c {
		for n := 1; n <= most; n++ {
			m[api.Mark{R: r, N: n}] = true
		}
	}
	return m
}

// wantedNext is what Next has to tell: P3.2 word by word.
func wantedNext(c api.Clock, r int) (api.Clock, api.Errno) {
	switch r {
	case 0, 1, 2, 3, 4:
	default:
		return api.Clock{}, api.ErrArg
	}
	if c[r] > 1<<20-1 {
		return api.Clock{}, api.ErrSpent
	}
	var more api.Clock
	for i, n := range c {
		more[i] = n
		if i == r {
			more[i] = n + 1
		}
	}
	return more, api.OK
}

// checkNext holds Next of c and r against what P3.2 says.
func checkNext(t *testing.T, c api.Clock, r int) {
	t.Helper()
	got, e := Next(c, r)
	if want, w := wantedNext(c, r); got != want || e != w {
		t.Errorf("Next of %v and %d told %v, %d instead of %v, %d", c, r, got, e, want, w)
	}
}

// P3.1
func TestHasTable(t *testing.T) {
	c := api.Clock{1, 0, 2, -3, api.MaxEvents}
	for _, x := range []struct {
		r, n int
		want bool
	}{
		{0, 0, false}, {0, 1, true}, {0, 2, false}, {0, -1, false},
		{1, 0, false}, {1, 1, false}, {1, -1, false},
		{2, 0, false}, {2, 1, true}, {2, 2, true}, {2, 3, false},
		{3, -3, false}, {3, -4, false}, {3, 0, false}, {3, 1, false},
		{4, 0, false}, {4, 1, true}, {4, api.MaxEvents - 1, true}, {4, api.MaxEvents, true}, {4, api.MaxEvents + 1, false},
		{4, math.MaxInt, false}, {4, math.MinInt, false}, {0, math.MinInt, false}, {0, math.MaxInt, false},
	} {
		if got := Has(c, x.r, x.n); got != x.want {
			t.Errorf("Has of %v, %d, %d is %v", c, x.r, x.n, got)
		}
	}
}

// P3.1: a number that is above what a replica may do is compared all the same.
func TestHasOfNumbersWithoutBound(t *testing.T) {
	c := api.Clock{math.MaxInt, math.MinInt, 1 << 32, math.MaxInt - 1, api.MaxEvents + 1}
	for _, x := range []struct {
		r, n int
		want bool
	}{
		{0, math.MaxInt, true}, {0, math.MinInt, false}, {0, 0, false}, {0, 1, true},
		{1, math.MinInt, false}, {1, math.MaxInt, false}, {1, 0, false}, {1, 1, false},
		{2, 1 << 32, true}, {2, 1<<32 + 1, false}, {2, 1 << 31, true},
		{3, math.MaxInt, false}, {3, math.MaxInt - 1, true},
		{4, api.MaxEvents + 1, true}, {4, api.MaxEvents + 2, false},
	} {
		if got := Has(c, x.r, x.n); got != x.want {
			t.Errorf("Has of %v, %d, %d is %v", c, x.r, x.n, got)
		}
	}
}

// P3.1: just the marks that are counted were seen.
func TestHasOfAllSmallClocks(t *testing.T) {
	for _, c := range few(-1, 0, 1, 3) {
		marks := seen(c)
		for r := -2; r < 8; r++ {
			for n := -2; n < 6; n++ {
				if got, want := Has(c, r, n), marks[api.Mark{R: r, N: n}]; got != want {
					t.Errorf("Has of %v, %d, %d is %v", c, r, n, got)
				}
			}
		}
	}
}

// P3.1, by R1: of what is no replica nothing was seen, and nobody panics.
func TestHasOfNoReplica(t *testing.T) {
	for _, c := range append(chance(200), api.Clock{9, 9, 9, 9, 9}) {
		for _, r := range noReplicas {
			for _, n := range []int{math.MinInt, -1, 0, 1, 2, math.MaxInt} {
				if Has(c, r, n) {
					t.Errorf("Has of %v, %d, %d is true", c, r, n)
				}
			}
		}
	}
}

// P3.1
func TestJoinTable(t *testing.T) {
	for _, x := range []struct{ a, b, want api.Clock }{
		{api.Clock{}, api.Clock{}, api.Clock{}},
		{api.Clock{1, 0, 2, 0, 0}, api.Clock{0, 3, 1, 0, 0}, api.Clock{1, 3, 2, 0, 0}},
		{api.Clock{1, 2, 3, 4, 5}, api.Clock{}, api.Clock{1, 2, 3, 4, 5}},
		{api.Clock{1, 2, 3, 4, 5}, api.Clock{5, 4, 3, 2, 1}, api.Clock{5, 4, 3, 4, 5}},
		{api.Clock{1, 2, 3, 4, 5}, api.Clock{1, 2, 3, 4, 5}, api.Clock{1, 2, 3, 4, 5}},
		{api.Clock{0, 0, 0, 0, 7}, api.Clock{7, 0, 0, 0, 0}, api.Clock{7, 0, 0, 0, 7}},
		{api.Clock{-1, -2, 0, -5, math.MinInt}, api.Clock{-2, -1, -3, -5, math.MaxInt}, api.Clock{-1, -1, 0, -5, math.MaxInt}},
		{api.Clock{math.MinInt, math.MaxInt}, api.Clock{math.MaxInt, math.MaxInt - 1}, api.Clock{math.MaxInt, math.MaxInt}},
	} {
		if got := Join(x.a, x.b); got != x.want {
			t.Errorf("Join of %v and %v is %v instead of %v", x.a, x.b, got, x.want)
		}
		if got := Join(x.b, x.a); got != x.want {
			t.Errorf("Join of %v and %v is %v instead of %v", x.b, x.a, got, x.want)
		}
	}
}

// P3.1: of each replica, whatever the others have.
func TestJoinOfEachReplica(t *testing.T) {
	l := chance(300)
	for _, a := range l {
		for _, b := range l {
			got := Join(a, b)
			for r := range got {
				if want := max(a[r], b[r]); got[r] != want {
					t.Errorf("Join of %v and %v is %v: of %d not %d", a, b, got, r, want)
				}
			}
		}
	}
}

// P3.1
func TestLessEqTable(t *testing.T) {
	for _, x := range []struct {
		a, b api.Clock
		want bool
	}{
		{api.Clock{}, api.Clock{}, true},
		{api.Clock{1, 2, 3, 4, 5}, api.Clock{1, 2, 3, 4, 5}, true},
		{api.Clock{1, 0, 2, 0, 0}, api.Clock{0, 3, 1, 0, 0}, false},
		{api.Clock{0, 3, 1, 0, 0}, api.Clock{1, 0, 2, 0, 0}, false},
		{api.Clock{}, api.Clock{0, 0, 0, 0, 1}, true},
		{api.Clock{0, 0, 0, 0, 1}, api.Clock{}, false},
		{api.Clock{-1}, api.Clock{}, true},
		{api.Clock{}, api.Clock{-1}, false},
		// The greater sum is not what counts, nor is the first number that differs.
		{api.Clock{1, 0, 0, 0, 0}, api.Clock{0, 9, 9, 9, 9}, false},
		{api.Clock{0, 1, 0, 0, 0}, api.Clock{1, 0, 9, 9, 9}, false},
		{api.Clock{9, 9, 9, 9, 1}, api.Clock{10, 10, 10, 10, 0}, false},
		// A difference would go round.
		{api.Clock{math.MinInt}, api.Clock{math.MaxInt}, true},
		{api.Clock{math.MaxInt}, api.Clock{math.MinInt}, false},
		{api.Clock{0, math.MinInt}, api.Clock{0, 1}, true},
		{api.Clock{0, 1}, api.Clock{0, math.MinInt}, false},
	} {
		if got := LessEq(x.a, x.b); got != x.want {
			t.Errorf("LessEq of %v and %v is %v", x.a, x.b, got)
		}
	}
}

// P3.1: one replica of which there is more is enough, whichever it is.
func TestLessEqOfEachReplica(t *testing.T) {
	l := chance(300)
	for _, a := range l {
		for _, b := range l {
			more := 0
			for r := range a {
				if a[r] > b[r] {
					more++
				}
			}
			if got := LessEq(a, b); got != (more == 0) {
				t.Errorf("LessEq of %v and %v is %v", a, b, got)
			}
		}
		for r, n := range a {
			if b := a; n != math.MaxInt {
				b[r] = n + 1
				if !LessEq(a, b) || LessEq(b, a) {
					t.Errorf("%v and %v, by number %d: %v, %v", a, b, r, LessEq(a, b), LessEq(b, a))
				}
			}
		}
	}
}

// P3.1: of few events, whether all marks that one has seen the other one has.
func TestLessEqOfWhatWasSeen(t *testing.T) {
	l := few(0, 1, 2)
	for _, a := range l {
		for _, b := range l {
			want := true
			for m := range seen(a) {
				want = want && m.N <= b[m.R]
			}
			if got := LessEq(a, b); got != want {
				t.Errorf("LessEq of %v and %v is %v", a, b, got)
			}
		}
	}
}

// P3.2
func TestNextTable(t *testing.T) {
	c := api.Clock{1, 0, 2, -1, api.MaxEvents - 1}
	for _, x := range []struct {
		c    api.Clock
		r    int
		want api.Clock
		e    api.Errno
	}{
		{c, 0, api.Clock{2, 0, 2, -1, api.MaxEvents - 1}, api.OK},
		{c, 1, api.Clock{1, 1, 2, -1, api.MaxEvents - 1}, api.OK},
		{c, 2, api.Clock{1, 0, 3, -1, api.MaxEvents - 1}, api.OK},
		{c, 3, api.Clock{1, 0, 2, 0, api.MaxEvents - 1}, api.OK},
		{c, 4, api.Clock{1, 0, 2, -1, api.MaxEvents}, api.OK},
		{c, 5, api.Clock{}, api.ErrArg},
		{c, -1, api.Clock{}, api.ErrArg},
		{api.Clock{1 << 20}, 0, api.Clock{}, api.ErrSpent},
		{api.Clock{1<<20 + 1}, 0, api.Clock{}, api.ErrSpent},
		{api.Clock{math.MaxInt}, 0, api.Clock{}, api.ErrSpent},
		{api.Clock{1<<20 - 1}, 0, api.Clock{1 << 20}, api.OK},
		{api.Clock{math.MinInt}, 0, api.Clock{math.MinInt + 1}, api.OK},
		// What the others have is not looked at.
		{api.Clock{1 << 20, 0, 1 << 20, 1 << 20, math.MaxInt}, 1, api.Clock{1 << 20, 1, 1 << 20, 1 << 20, math.MaxInt}, api.OK},
		// Of two errors the first one.
		{api.Clock{1 << 20, 1 << 20, 1 << 20, 1 << 20, 1 << 20}, 5, api.Clock{}, api.ErrArg},
		{api.Clock{1 << 20, 1 << 20, 1 << 20, 1 << 20, 1 << 20}, -1, api.Clock{}, api.ErrArg},
	} {
		if got, e := Next(x.c, x.r); got != x.want || e != x.e {
			t.Errorf("Next of %v and %d told %v, %d instead of %v, %d", x.c, x.r, got, e, x.want, x.e)
		}
	}
}

// P3.2, by R2: with an error the clock that is told is zero.
func TestNextOfAnyClock(t *testing.T) {
	for _, c := range append(chance(1000), few(0, 1, api.MaxEvents-1, api.MaxEvents)...) {
		for r := -1; r <= api.Replicas; r++ {
			checkNext(t, c, r)
		}
		for _, r := range noReplicas {
			checkNext(t, c, r)
		}
	}
}

// P3.2, P3.1: one more is all that is new: one mark, and it is above what was.
func TestNextIsOneMark(t *testing.T) {
	for _, c := range few(0, 1, 2, 3) {
		for r := range api.Replicas {
			more, e := Next(c, r)
			if e != api.OK || !LessEq(c, more) || LessEq(more, c) || !Has(more, r, c[r]+1) || len(seen(more)) != len(seen(c))+1 {
				t.Errorf("Next of %v and %d told %v, %d", c, r, more, e)
			}
		}
	}
}

// P3.2: one by one a clock gets as far as it may, and no further.
func TestNextToTheEnd(t *testing.T) {
	var c api.Clock
	for i := range 1 << 20 {
		more, e := Next(c, 3)
		if more != (api.Clock{3: i + 1}) || e != api.OK {
			t.Fatalf("Next number %d told %v, %d", i+1, more, e)
		}
		c = more
	}
	if more, e := Next(c, 3); more != (api.Clock{}) || e != api.ErrSpent {
		t.Errorf("behind the last one Next told %v, %d", more, e)
	}
}

// P3.3: what the join of two has seen, one of them has, and the other way about.
func TestJoinHasWhatOneHas(t *testing.T) {
	l := few(-1, 0, 2)
	for _, a := range l {
		for _, b := range l {
			joined := Join(a, b)
			for r := -1; r <= api.Replicas; r++ {
				for n := -1; n < 4; n++ {
					if got, want := Has(joined, r, n), Has(a, r, n) || Has(b, r, n); got != want {
						t.Errorf("of %v and %v, that are joined to %v, Has of %d, %d is %v", a, b, joined, r, n, got)
					}
				}
			}
		}
	}
}

// P3.3: the join is above both, and below all that is above both.
func TestJoinIsTheLeast(t *testing.T) {
	for _, l := range [][]api.Clock{few(0, 1), few(-1, 3), chance(120)} {
		for _, a := range l {
			for _, b := range l {
				joined := Join(a, b)
				if !LessEq(a, joined) || !LessEq(b, joined) {
					t.Errorf("%v is not above both of %v and %v", joined, a, b)
				}
				for _, c := range l {
					if got, want := LessEq(joined, c), LessEq(a, c) && LessEq(b, c); got != want {
						t.Errorf("%v, the join of %v and %v: whether it is below %v is %v", joined, a, b, c, got)
					}
				}
			}
		}
	}
}

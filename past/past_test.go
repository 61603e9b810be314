package past

import (
	"math"
	"math/rand"
	"slices"
	"testing"

	"kith/api"
	"kith/clock"
	"kith/event"
	"kith/stamp"
)

// edges are numbers next to each bound, those of replicas, events, heights and int among them.
var edges = []int{math.MinInt, math.MinInt + 1, -1 << 32, -2, -1, 0, 1, 2, 3, 4, 5, 6, 1<<20 - 1, 1 << 20, 1<<20 + 1, 1 << 24, 1<<24 + 1, 1 << 32, 1<<32 + 1, math.MaxInt - 1, math.MaxInt}

// made is a Create of "a" that may be, if these numbers may: of its own replica it had seen what is ahead of it, of the others what seen says.
func made(r, n, height int, seen ...int) api.Event {
	e := api.Event{R: r, N: n, Height: height, Kind: api.Create, Key: "a"}
	copy(e.Ctx[:], seen)
	e.Ctx[r] = n - 1
	return e
}

// bare is an event of which just the mark and the height are told, whether it may be or not.
func bare(r, n, height int) api.Event {
	return api.Event{R: r, N: n, Height: height}
}

// seeing is an event of which just the mark and the clock are told, whether it may be or not.
func seeing(r, n int, seen ...int) api.Event {
	e := api.Event{R: r, N: n}
	copy(e.Ctx[:], seen)
	return e
}

// three is a past: 0 and 1 apart, and 0 again, having seen both.
func three() []api.Event {
	return []api.Event{made(0, 1, 1), made(1, 1, 1), made(0, 2, 2, 0, 1)}
}

// edited is an edit by chance, as a part of an event.
func edited(chance *rand.Rand) api.Event {
	e := api.Event{Kind: 1 + chance.Intn(5), Key: string(rune('a' + chance.Intn(3)))}
	if e.Kind > api.Delete {
		e.Label, e.Value = chance.Intn(2), string(rune('0'+chance.Intn(3)))
	}
	return e
}

// byChance is a right past, of up to five replicas that edit, and get events of each other, by chance: each behind what is below it.
func byChance(chance *rand.Rand, most int) []api.Event {
	var l []api.Event
	var saw [api.Replicas]api.Clock
	replicas := 1 + chance.Intn(api.Replicas)
	for len(l) < most {
		r, from := chance.Intn(replicas), chance.Intn(replicas)
		if chance.Intn(3) > 0 {
			saw[r] = clock.Join(saw[r], saw[from])
			continue
		}
		e := edited(chance)
		e.R, e.N, e.Ctx, e.Height = r, saw[r][r]+1, saw[r], wantedHeight(l, saw[r])
		saw[r][r]++
		l = append(l, e)
	}
	return l
}

// shuffled is l anew, in an order by chance.
func shuffled(chance *rand.Rand, l []api.Event) []api.Event {
	s := slices.Clone(l)
	chance.Shuffle(len(s), func(i, k int) { s[i], s[k] = s[k], s[i] })
	return s
}

// spoilt is l anew, with one thing by chance that may be another one.
func spoilt(chance *rand.Rand, l []api.Event) []api.Event {
	s := slices.Clone(l)
	i := chance.Intn(len(s))
	e := &s[i]
	other := func(n int) int {
		if chance.Intn(4) == 0 {
			return edges[chance.Intn(len(edges))]
		}
		return n + chance.Intn(5) - 2
	}
	r := chance.Intn(api.Replicas)
	switch chance.Intn(9) {
	case 0:
		e.R = other(e.R)
	case 1:
		e.N = other(e.N)
	case 2, 3:
		e.Ctx[r] = other(e.Ctx[r])
	case 4:
		e.Height = other(e.Height)
	case 5:
		e.Key = []string{"", "A", "b", "abcdefghi"}[chance.Intn(4)]
	case 6:
		return slices.Delete(s, i, i+1)
	case 7:
		return append(s, s[chance.Intn(len(s))])
	case 8:
		s[i] = s[chance.Intn(len(s))]
	}
	return s
}

// lists calls f with each list of up to n of these events.
func lists(of []api.Event, n int, f func([]api.Event)) {
	var longer func(l []api.Event)
	longer = func(l []api.Event) {
		f(l)
		if len(l) == n {
			return
		}
		for _, e := range of {
			longer(append(slices.Clone(l), e))
		}
	}
	longer(nil)
}

// clocks are the rows of that many numbers from 0 to most.
func clocks(many, most int) [][]int {
	if many == 0 {
		return [][]int{nil}
	}
	var l [][]int
	for _, c := range clocks(many-1, most) {
		for n := range most + 1 {
			l = append(l, append(slices.Clone(c), n))
		}
	}
	return l
}

// pool is each Create of "a" that may be, of so many replicas, with no number above these.
func pool(replicas, events, height int) []api.Event {
	var l []api.Event
	for _, seen := range clocks(replicas, events) {
		for r := range replicas {
			for h := 1; h <= height && seen[r] < events; h++ {
				l = append(l, made(r, seen[r]+1, h, seen...))
			}
		}
	}
	return l
}

// wantedHeight is P8.1's Height word by word.
func wantedHeight(l []api.Event, c api.Clock) int {
	var heights []int
	for _, e := range l {
		if e.R >= 0 && e.R < 5 && e.N >= 1 && e.N <= c[e.R] {
			heights = append(heights, e.Height)
		}
	}
	if heights == nil {
		return 1
	}
	return 1 + slices.Max(heights)
}

// has tells whether an event of l has this mark.
func has(l []api.Event, r, n int) bool {
	return slices.ContainsFunc(l, func(e api.Event) bool { return e.R == r && e.N == n })
}

// wantedClock is P8.1's Clock word by word.
func wantedClock(l []api.Event) api.Clock {
	var c api.Clock
	for r := range 5 {
		n := 0
		for has(l, r, n+1) {
			n++
		}
		c[r] = n
	}
	return c
}

// wantedRight is P8.2 word by word: each mark of each clock is asked.
func wantedRight(l []api.Event) bool {
	for i, e := range l {
		if event.May(e) != api.OK || has(l[:i], e.R, e.N) || e.Height != wantedHeight(l, e.Ctx) {
			return false
		}
		for r := range 5 {
			for n := 1; n <= e.Ctx[r]; n++ {
				if !slices.ContainsFunc(l, func(f api.Event) bool { return f.R == r && f.N == n && clock.LessEq(f.Ctx, e.Ctx) }) {
					return false
				}
			}
		}
	}
	return true
}

// wantedOrdered is P8.3's Ordered word by word.
func wantedOrdered(l []api.Event) bool {
	for i, e := range l {
		for r := range 5 {
			for n := 1; n <= e.Ctx[r]; n++ {
				if !has(l[:i], r, n) {
					return false
				}
			}
		}
	}
	return true
}

// wantedSort is P8.3's Sort word by word: always the first one that is less than none that is left is taken away.
func wantedSort(l []api.Event) []api.Event {
	var s []api.Event
	left := slices.Clone(l)
	for len(left) > 0 {
		first := 0
		for i, e := range left {
			f := left[first]
			if e.Height < f.Height || e.Height == f.Height && e.R < f.R {
				first = i
			}
		}
		s = append(s, left[first])
		left = slices.Delete(left, first, first+1)
	}
	return s
}

// check holds each call of l against what P8.1 to P8.3 say, and, by R7, that l is left as it was.
func check(t *testing.T, l []api.Event) {
	t.Helper()
	was := slices.Clone(l)
	if got, want := Right(l), wantedRight(was); got != want {
		t.Errorf("Right of %v is %v", was, got)
	}
	if got, want := Ordered(l), wantedOrdered(was); got != want {
		t.Errorf("Ordered of %v is %v", was, got)
	}
	if got, want := Clock(l), wantedClock(was); got != want {
		t.Errorf("Clock of %v is %v instead of %v", was, got, want)
	}
	if got, want := Sort(l), wantedSort(was); !slices.Equal(got, want) {
		t.Errorf("Sort of %v is %v instead of %v", was, got, want)
	}
	for _, e := range append(was, api.Event{}) {
		checkHeight(t, l, e.Ctx)
	}
	checkHeight(t, l, Clock(l))
	if !slices.Equal(l, was) {
		t.Errorf("%v is made of %v", l, was)
	}
}

// checkHeight holds Height of l and c against what P8.1 says.
func checkHeight(t *testing.T, l []api.Event, c api.Clock) {
	t.Helper()
	if got, want := Height(l, c), wantedHeight(l, c); got != want {
		t.Errorf("Height of %v and %v is %d instead of %d", l, c, got, want)
	}
}

// P8.1
func TestHeightTable(t *testing.T) {
	l := []api.Event{bare(0, 1, 3), bare(1, 1, 9), bare(1, 2, 5), bare(4, 7, 20)}
	for _, x := range []struct {
		l    []api.Event
		c    api.Clock
		want int
	}{
		{nil, api.Clock{}, 1},
		{nil, api.Clock{9, 9, 9, 9, 9}, 1},
		{[]api.Event{}, api.Clock{1}, 1},
		{l, api.Clock{}, 1},
		{l, api.Clock{1}, 4},
		{l, api.Clock{1, 1}, 10},
		// The greatest one, not the last one.
		{l, api.Clock{1, 2}, 10},
		{l, api.Clock{0, 2}, 10},
		// Not seen: up to the sixth one just.
		{l, api.Clock{1, 0, 0, 0, 6}, 4},
		{l, api.Clock{1, 2, 0, 0, 7}, 21},
		// A clock that has what is not there.
		{l, api.Clock{0, 0, 1 << 20, 1 << 20}, 1},
		{l, api.Clock{math.MaxInt, math.MaxInt, math.MaxInt, math.MaxInt, math.MaxInt}, 21},
		{l, api.Clock{math.MinInt, -1, -1, -1, math.MinInt}, 1},
		{three(), api.Clock{2, 1}, 3},
		{three(), api.Clock{1}, 2},
		{three(), api.Clock{0, 1}, 2},
	} {
		if got := Height(x.l, x.c); got != x.want {
			t.Errorf("Height of %v and %v is %d instead of %d", x.l, x.c, got, x.want)
		}
	}
}

// P8.1, by R1 and R4: heights that may not be count all the same, and one more goes round.
func TestHeightOfNumbersWithoutBound(t *testing.T) {
	for _, x := range []struct {
		heights []int
		want    int
	}{
		{[]int{0}, 1},
		{[]int{-1}, 0},
		{[]int{-5}, -4},
		{[]int{-5, -3, -4}, -2},
		{[]int{-3, -5}, -2},
		{[]int{math.MinInt}, math.MinInt + 1},
		{[]int{math.MinInt, math.MinInt}, math.MinInt + 1},
		{[]int{math.MaxInt}, math.MinInt},
		{[]int{1, math.MaxInt, 2}, math.MinInt},
		{[]int{math.MaxInt - 1}, math.MaxInt},
		{[]int{api.MaxHeight}, api.MaxHeight + 1},
	} {
		var l []api.Event
		for i, h := range x.heights {
			l = append(l, bare(2, i+1, h))
		}
		if got := Height(l, Clock(l)); got != x.want {
			t.Errorf("Height above %v is %d instead of %d", x.heights, got, x.want)
		}
	}
}

// P8.1: what no clock has does not count, whatever its height is.
func TestHeightLeavesOutWhatNoClockHas(t *testing.T) {
	full := api.Clock{math.MaxInt, math.MaxInt, math.MaxInt, math.MaxInt, math.MaxInt}
	for _, n := range edges {
		for _, e := range []api.Event{bare(n, 1, 50), bare(0, n, 50)} {
			want := 8
			if e.R >= 0 && e.R < 5 && e.N >= 1 {
				want = 51
			}
			if got := Height([]api.Event{bare(1, 1, 7), e}, full); got != want {
				t.Errorf("Height above %v and 7 is %d instead of %d", e, got, want)
			}
		}
	}
}

// P8.1: events whose clocks have nothing to do with what is asked.
func TestHeightAsksMarksAlone(t *testing.T) {
	l := []api.Event{seeing(0, 1, 9, 9, 9, 9, 9), seeing(1, 1, -9, -9, -9, -9, -9)}
	l[0].Height, l[1].Height = 6, 4
	if got := Height(l, api.Clock{1, 1}); got != 7 {
		t.Errorf("Height is %d instead of 7", got)
	}
}

// P8.1
func TestClockTable(t *testing.T) {
	for _, x := range []struct {
		l    []api.Event
		want api.Clock
	}{
		{nil, api.Clock{}},
		{[]api.Event{}, api.Clock{}},
		{[]api.Event{bare(0, 1, 1)}, api.Clock{1}},
		{[]api.Event{bare(4, 1, 1)}, api.Clock{0, 0, 0, 0, 1}},
		{three(), api.Clock{2, 1}},
		// A gap, at the beginning, and further on.
		{[]api.Event{bare(0, 2, 1)}, api.Clock{}},
		{[]api.Event{bare(3, 2, 1), bare(3, 3, 1), bare(3, 4, 1)}, api.Clock{}},
		{[]api.Event{bare(3, 1, 1), bare(3, 3, 1), bare(3, 4, 1)}, api.Clock{0, 0, 0, 1}},
		{[]api.Event{bare(3, 1, 1), bare(3, 2, 1), bare(3, 4, 1)}, api.Clock{0, 0, 0, 2}},
		// One that is filled later: so the order is nothing.
		{[]api.Event{bare(1, 4, 1), bare(1, 2, 1), bare(1, 3, 1), bare(1, 1, 1)}, api.Clock{0, 4}},
		{[]api.Event{bare(1, 3, 1), bare(2, 1, 1), bare(1, 1, 1), bare(1, 2, 1)}, api.Clock{0, 3, 1}},
		// Another one's does not fill it.
		{[]api.Event{bare(1, 1, 1), bare(2, 2, 1), bare(1, 3, 1)}, api.Clock{0, 1}},
		// Twice the same: once.
		{[]api.Event{bare(2, 1, 1), bare(2, 1, 1), bare(2, 2, 1), bare(2, 2, 7)}, api.Clock{0, 0, 2}},
		{[]api.Event{bare(2, 1, 1), bare(2, 1, 2), bare(2, 3, 1)}, api.Clock{0, 0, 1}},
		// What is no mark of a replica's event.
		{[]api.Event{bare(0, 0, 1), bare(0, -1, 1), bare(5, 1, 1), bare(-1, 1, 1), bare(6, 1, 1)}, api.Clock{}},
		{[]api.Event{bare(0, 0, 1), bare(0, 1, 1), bare(0, -1, 1)}, api.Clock{1}},
		{[]api.Event{bare(0, math.MaxInt, 1), bare(0, math.MinInt, 1), bare(math.MinInt, 1, 1), bare(math.MaxInt, 1, 1), bare(1<<32, 1, 1)}, api.Clock{}},
		// What they had seen is nothing.
		{[]api.Event{seeing(0, 1, 9, 9, 9, 9, 9)}, api.Clock{1}},
	} {
		if got := Clock(x.l); got != x.want {
			t.Errorf("Clock of %v is %v instead of %v", x.l, got, x.want)
		}
	}
}

// P8.1: each order of some marks of two replicas, with gaps.
func TestClockOfAllSmallLists(t *testing.T) {
	var of []api.Event
	for n := range 4 {
		of = append(of, bare(0, n, 1), bare(1, n, 1))
	}
	lists(of, 5, func(l []api.Event) {
		if got, want := Clock(l), wantedClock(l); got != want {
			t.Errorf("Clock of %v is %v instead of %v", l, got, want)
		}
	})
}

// P8.2
func TestRightTable(t *testing.T) {
	for i, x := range []struct {
		l    []api.Event
		want bool
	}{
		{nil, true},
		{[]api.Event{}, true},
		{[]api.Event{made(0, 1, 1)}, true},
		{[]api.Event{made(4, 1, 1)}, true},
		{three(), true},
		// The order is nothing.
		{[]api.Event{three()[2], three()[1], three()[0]}, true},
		{[]api.Event{three()[1], three()[2], three()[0]}, true},
		// One that may not be.
		{[]api.Event{{}}, false},
		{[]api.Event{{R: 0, N: 1, Height: 1, Kind: api.Create}}, false},
		{[]api.Event{made(0, 1, 1), {R: 5, N: 1, Height: 1, Kind: api.Create, Key: "a"}}, false},
		{[]api.Event{{R: -1, N: 1, Height: 1, Kind: api.Create, Key: "a"}}, false},
		{[]api.Event{{R: 0, N: 0, Ctx: api.Clock{-1}, Height: 1, Kind: api.Create, Key: "a"}}, false},
		{[]api.Event{made(0, 1, 1, 0, -1)}, false},
		{[]api.Event{made(0, 1, 1), {R: 0, N: 2, Height: 1, Kind: api.Create, Key: "a"}}, false},
		{[]api.Event{{R: 0, N: 1, Ctx: api.Clock{1}, Height: 2, Kind: api.Create, Key: "a"}}, false},
		{[]api.Event{{R: 0, N: 1, Height: 1, Kind: api.Set, Key: "a", Label: 2, Value: "b"}}, false},
		// Two that have one mark, the same or not, wherever they stand.
		{[]api.Event{made(0, 1, 1), made(0, 1, 1)}, false},
		{[]api.Event{made(0, 1, 1), made(1, 1, 1), made(0, 1, 1)}, false},
		{[]api.Event{made(0, 1, 1), made(1, 1, 1), made(0, 1, 2, 0, 1)}, false},
		{[]api.Event{made(0, 1, 1), {R: 0, N: 1, Height: 1, Kind: api.Create, Key: "b"}}, false},
		{append(three(), three()...), false},
		// What had been seen is missing: its own ones, another one's, the last one, one in between, all.
		{[]api.Event{made(0, 2, 2)}, false},
		{[]api.Event{made(0, 2, 1)}, false},
		{[]api.Event{made(0, 1, 1), made(0, 3, 2)}, false},
		{[]api.Event{made(0, 1, 1, 0, 1)}, false},
		{[]api.Event{made(0, 1, 2, 0, 1)}, false},
		{[]api.Event{made(0, 1, 2, 0, 2), made(1, 1, 1)}, false},
		{[]api.Event{made(0, 1, 3, 0, 2), made(1, 2, 2)}, false},
		{[]api.Event{made(0, 1, 3, 0, 2), made(1, 1, 1), made(1, 2, 2)}, true},
		{[]api.Event{made(0, 1, 1, 1<<20, 1<<20, 1<<20, 1<<20, 1<<20)}, false},
		// What it had seen had seen more: what is below what is below is not below then.
		{[]api.Event{made(0, 1, 1), made(1, 1, 2, 1), made(2, 1, 3, 0, 1)}, false},
		{[]api.Event{made(0, 1, 1), made(1, 1, 2, 1), made(2, 1, 3, 1, 1)}, true},
		{[]api.Event{made(0, 1, 1), made(1, 1, 2, 1), made(1, 2, 3, 0)}, false},
		{[]api.Event{made(0, 1, 1), made(1, 1, 2, 1), made(1, 2, 3, 1)}, true},
		// So has one ahead of the last one that it had seen.
		{[]api.Event{made(0, 1, 1), made(1, 1, 2, 1), made(1, 2, 3, 0), made(2, 1, 4, 0, 2)}, false},
		// Two that had seen each other.
		{[]api.Event{made(0, 1, 2, 0, 1), made(1, 1, 2, 1)}, false},
		{[]api.Event{made(0, 1, 2, 0, 1), made(1, 1, 3, 1)}, false},
		{[]api.Event{made(0, 1, 1), made(1, 1, 3, 2), made(0, 2, 2, 0, 1)}, false},
		// Heights.
		{[]api.Event{made(0, 1, 2)}, false},
		{[]api.Event{made(0, 1, api.MaxHeight)}, false},
		{[]api.Event{made(0, 1, 1), made(1, 1, 1, 1)}, false},
		{[]api.Event{made(0, 1, 1), made(1, 1, 2, 1)}, true},
		{[]api.Event{made(0, 1, 1), made(1, 1, 3, 1)}, false},
		{[]api.Event{made(0, 1, 1), made(1, 1, 2)}, false},
		{[]api.Event{made(0, 1, 1), made(0, 2, 2), made(1, 1, 2, 1)}, true},
		{[]api.Event{made(0, 1, 1), made(0, 2, 2), made(1, 1, 3, 1)}, false},
		{[]api.Event{made(0, 1, 1), made(0, 2, 2), made(0, 3, 3), made(1, 1, 1), made(1, 2, 4, 3)}, true},
		{[]api.Event{made(0, 1, 1), made(0, 2, 2), made(0, 3, 3), made(1, 1, 1), made(1, 2, 2, 3)}, false},
	} {
		if got := Right(x.l); got != x.want {
			t.Errorf("%d: Right of %v is %v", i, x.l, got)
		}
		if wantedRight(x.l) != x.want {
			t.Errorf("%d: word by word %v is not %v", i, x.l, x.want)
		}
	}
}

// P8.2 and P8.3: any numbers, wherever they stand, and no panic.
func TestOneNumberOfAnySize(t *testing.T) {
	for i := range three() {
		for _, n := range edges {
			for k := range 9 {
				l := three()
				places := []*int{&l[i].R, &l[i].N, &l[i].Height, &l[i].Kind}
				for r := range l[i].Ctx {
					places = append(places, &l[i].Ctx[r])
				}
				*places[k] = n
				check(t, l)
			}
		}
	}
}

// P8.2 and P8.3: a clock that has more than there may be ends the call all the same.
func TestClocksWithoutBound(t *testing.T) {
	full := []int{math.MaxInt, math.MaxInt, math.MaxInt, math.MaxInt, math.MaxInt}
	if l := []api.Event{seeing(0, 1, full...)}; Right(l) || Ordered(l) {
		t.Error("one that had seen all, itself among it")
	}
	if l := []api.Event{made(0, 1, 1), seeing(0, 2, full...)}; Right(l) || Ordered(l) {
		t.Error("one that had seen all, as its second one")
	}
}

// P8.1 to P8.3: all lists of few small events.
func TestAllSmallLists(t *testing.T) {
	lists(pool(2, 2, 3), 3, func(l []api.Event) { check(t, l) })
	lists(pool(3, 1, 3), 3, func(l []api.Event) { check(t, l) })
	lists(pool(2, 1, 2), 4, func(l []api.Event) { check(t, l) })
}

// P8.1 to P8.3: right pasts by chance, in the order in which they were made, in others, and with a thing or two that are wrong.
func TestPastsByChance(t *testing.T) {
	chance := rand.New(rand.NewSource(8))
	for range 4000 {
		l := byChance(chance, chance.Intn(16))
		if !Right(l) || !Ordered(l) {
			t.Errorf("%v: right %v, ordered %v", l, Right(l), Ordered(l))
		}
		check(t, l)
		l = shuffled(chance, l)
		check(t, l)
		for range 3 {
			if len(l) > 0 {
				l = spoilt(chance, l)
				check(t, l)
			}
		}
	}
}

// P8.2: the events of a right past without one are one just if none that is left had seen it.
func TestRightWithoutOne(t *testing.T) {
	chance := rand.New(rand.NewSource(82))
	for range 500 {
		l := byChance(chance, 1+chance.Intn(12))
		for i, e := range l {
			s := slices.Delete(slices.Clone(l), i, i+1)
			want := !slices.ContainsFunc(s, func(f api.Event) bool { return event.Below(e, f) })
			if got := Right(s); got != want {
				t.Errorf("Right of %v without %v is %v", l, e, got)
			}
		}
	}
}

// P8.2: as many events of a replica as there may be, each above the one ahead; and one more, that may not be.
func TestLongPast(t *testing.T) {
	var l []api.Event
	for n := 1; n <= api.MaxEvents; n++ {
		l = append(l, made(2, n, n))
	}
	full := api.Clock{0, 0, api.MaxEvents}
	if !Right(l) || !Ordered(l) || Clock(l) != full || Height(l, full) != api.MaxEvents+1 {
		t.Error("the long past")
	}
	end := len(l) - 1
	l[end].Height++
	if Right(l) {
		t.Error("the long past with a height that is wrong")
	}
	l[end].Height--
	l = append(l, made(2, api.MaxEvents+1, api.MaxEvents+1))
	if Right(l) || !Ordered(l) || Clock(l) != (api.Clock{0, 0, api.MaxEvents + 1}) {
		t.Error("the long past and one more")
	}
	slices.Reverse(l)
	if Ordered(l) || Clock(l) != (api.Clock{0, 0, api.MaxEvents + 1}) || Sort(l)[0].N != 1 {
		t.Error("the long past turned about")
	}
}

// P8.3: of no right past too.
func TestOrderedTable(t *testing.T) {
	for i, x := range []struct {
		l    []api.Event
		want bool
	}{
		{nil, true},
		{[]api.Event{}, true},
		{[]api.Event{{}}, true},
		{[]api.Event{made(0, 1, 1)}, true},
		{three(), true},
		{[]api.Event{three()[1], three()[0], three()[2]}, true},
		{[]api.Event{three()[0], three()[2], three()[1]}, false},
		{[]api.Event{three()[2], three()[0], three()[1]}, false},
		// What is missing does not stand ahead.
		{three()[1:], false},
		{[]api.Event{made(0, 2, 2)}, false},
		{[]api.Event{made(0, 1, 1), made(0, 3, 3)}, false},
		{[]api.Event{made(1, 2, 1, 0, 1), made(0, 1, 1, 0, 2)}, false},
		// All that its clock has, not just the last one.
		{[]api.Event{seeing(1, 2), seeing(0, 1, 0, 2)}, false},
		{[]api.Event{seeing(1, 2), seeing(1, 1), seeing(0, 1, 0, 2)}, true},
		{[]api.Event{seeing(1, 3), seeing(1, 1), seeing(0, 1, 0, 3)}, false},
		{[]api.Event{seeing(1, 3), seeing(1, 1), seeing(1, 2), seeing(0, 1, 0, 3)}, true},
		// Nothing stands ahead of itself.
		{[]api.Event{seeing(0, 1, 1)}, false},
		{[]api.Event{seeing(0, 1), seeing(0, 1, 1)}, true},
		{[]api.Event{seeing(0, 1, 0, 1), seeing(1, 1, 1)}, false},
		// Clocks alone count: not whether it may be, nor how high it is, nor whether a mark is there twice.
		{[]api.Event{made(0, 1, 9), made(1, 1, 3, 1), made(0, 1, 1), made(1, 1, -1)}, true},
		{[]api.Event{made(0, 2, 1)}, false},
		{[]api.Event{bare(0, 2, 1), bare(0, 1, 2)}, true},
		{[]api.Event{seeing(0, 1, -1, math.MinInt)}, true},
		{[]api.Event{bare(7, 1, 1), bare(-1, 1, 1), bare(0, 0, 1), bare(0, -1, 1)}, true},
		// What is no replica's, or no mark, fills no gap.
		{[]api.Event{bare(5, 1, 1), bare(-1, 1, 1), bare(0, 0, 1), seeing(1, 1, 1)}, false},
	} {
		if got := Ordered(x.l); got != x.want {
			t.Errorf("%d: Ordered of %v is %v", i, x.l, got)
		}
	}
}

// P8.3
func TestSortTable(t *testing.T) {
	a, b, c := made(0, 1, 1), made(1, 1, 1), made(0, 2, 2, 0, 1)
	other := a
	other.Key = "z"
	high, low := bare(0, 1, math.MaxInt), bare(0, 1, math.MinInt)
	below, above := bare(math.MinInt, 1, 1), bare(math.MaxInt, 1, 1)
	for _, x := range []struct{ l, want []api.Event }{
		{nil, nil},
		{[]api.Event{}, nil},
		{[]api.Event{c}, []api.Event{c}},
		{[]api.Event{a, b, c}, []api.Event{a, b, c}},
		{[]api.Event{c, b, a}, []api.Event{a, b, c}},
		{[]api.Event{b, c, a}, []api.Event{a, b, c}},
		// The height goes first, whatever the replicas and the marks are.
		{[]api.Event{made(4, 1, 2), made(0, 1, 3), made(2, 9, 1)}, []api.Event{made(2, 9, 1), made(4, 1, 2), made(0, 1, 3)}},
		// Of one stamp as they stand: not by N, nor by anything else.
		{[]api.Event{a, other, b}, []api.Event{a, other, b}},
		{[]api.Event{b, other, a}, []api.Event{other, a, b}},
		{[]api.Event{bare(0, 3, 1), bare(0, 1, 1), bare(0, 2, 1)}, []api.Event{bare(0, 3, 1), bare(0, 1, 1), bare(0, 2, 1)}},
		// The same ones are all told.
		{[]api.Event{a, c, a, a}, []api.Event{a, a, a, c}},
		// No difference goes round.
		{[]api.Event{high, a, low}, []api.Event{low, a, high}},
		{[]api.Event{above, b, below}, []api.Event{below, b, above}},
	} {
		if got := Sort(x.l); !slices.Equal(got, x.want) {
			t.Errorf("Sort of %v is %v instead of %v", x.l, got, x.want)
		}
	}
}

// P8.3: long lists in which many have one stamp, which may not be too.
func TestSortLeavesOneStampAsItStands(t *testing.T) {
	chance := rand.New(rand.NewSource(83))
	for range 300 {
		l := make([]api.Event, chance.Intn(200))
		for i := range l {
			l[i] = bare(chance.Intn(3)-1, i, chance.Intn(5)-2)
		}
		if got, want := Sort(l), wantedSort(l); !slices.Equal(got, want) {
			t.Errorf("Sort of %v is %v instead of %v", l, got, want)
		}
	}
}

// P8.3, by R7: what is told is the caller's own.
func TestSortIsItsOwn(t *testing.T) {
	// Those that stand right already too.
	for _, l := range [][]api.Event{three(), {three()[2], three()[0], three()[1]}, {three()[0]}} {
		was, want := slices.Clone(l), wantedSort(l)
		s := Sort(l)
		for i := range s {
			s[i].Key = "changed"
		}
		if !slices.Equal(l, was) {
			t.Errorf("what became of the answer made %v of %v", l, was)
		}
		s = Sort(l)
		for i := range l {
			l[i].Key = "changed"
		}
		if !slices.Equal(s, want) {
			t.Errorf("what became of the list made %v of %v", s, want)
		}
	}
	room := three()[:2]
	s := append(Sort(room), made(3, 1, 1))
	if room[:3][2] != three()[2] || len(s) != 3 {
		t.Error("what is behind the list is changed")
	}
	none := three()[:0]
	if _ = append(Sort(none), made(3, 1, 1)); none[:1][0] != three()[0] {
		t.Error("what is behind the empty list is changed")
	}
}

// P8.1 to P8.3, by R6: the same list has the same answers each time, whatever was asked in between.
func TestAnswersHangOnTheirListAlone(t *testing.T) {
	l, other := three(), []api.Event{made(3, 1, 7), made(3, 1, 7), made(4, 2, 1)}
	for range 3 {
		if !Right(l) || !Ordered(l) || Clock(l) != (api.Clock{2, 1}) || Height(l, api.Clock{2, 1}) != 3 || !slices.Equal(Sort(l), three()) {
			t.Error("the past")
		}
		if Right(other) || Ordered(other) || Clock(other) != (api.Clock{0, 0, 0, 1}) || Height(other, api.Clock{0, 0, 0, 1}) != 8 {
			t.Error("the other list")
		}
	}
}

// checkOrder holds the right past l against P8.4.
func checkOrder(t *testing.T, l []api.Event) {
	t.Helper()
	s := Sort(l)
	if !Right(s) || !Ordered(s) {
		t.Errorf("%v, sorted: right %v, ordered %v", l, Right(s), Ordered(s))
	}
	for i, a := range l {
		if event.Below(a, a) {
			t.Errorf("%v is below itself", a)
		}
		for k, b := range l {
			less := stamp.Less(api.Stamp{Height: a.Height, R: a.R}, api.Stamp{Height: b.Height, R: b.R})
			if event.Below(a, b) && (a.Height >= b.Height || event.Below(b, a) || !less) {
				t.Errorf("%v is below %v", a, b)
			}
			if i != k && a.Height == b.Height && a.R == b.R {
				t.Errorf("%v and %v have one stamp", a, b)
			}
			for _, c := range l {
				if event.Below(a, b) && event.Below(b, c) && !event.Below(a, c) {
					t.Errorf("%v is below %v, and that below %v, but not the first below the third", a, b, c)
				}
			}
		}
	}
}

// P8.4
func TestOrderOfAllSmallPasts(t *testing.T) {
	count := 0
	seen := func(l []api.Event) {
		if Right(l) {
			count++
			checkOrder(t, l)
		}
	}
	lists(pool(2, 2, 3), 3, seen)
	lists(pool(3, 1, 3), 3, seen)
	if count < 100 {
		t.Errorf("just %d of them are right", count)
	}
}

// P8.4: sorted, a past is the same, in whichever order its events came.
func TestOrderOfPastsByChance(t *testing.T) {
	chance := rand.New(rand.NewSource(84))
	for range 300 {
		l := byChance(chance, chance.Intn(40))
		checkOrder(t, l)
		want := Sort(l)
		for range 5 {
			s := shuffled(chance, l)
			if got := Sort(s); !Right(s) || !slices.Equal(got, want) {
				t.Errorf("%v is right: %v, sorted it is %v instead of %v", s, Right(s), got, want)
			}
		}
	}
}

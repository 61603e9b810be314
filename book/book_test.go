package book

import (
	"math"
	"math/rand"
	"reflect"
	"slices"
	"strings"
	"testing"

	"kith/api"
	"kith/clock"
	"kith/past"
)

// edges are numbers next to each bound, of kinds, labels, replicas, events and int.
var edges = []int{math.MinInt, math.MinInt + 1, -1 << 32, -2, -1, 0, 1, 2, 3, 4, 5, 6, 1<<20 - 1, 1 << 20, 1<<20 + 1, 1 << 24, 1 << 32, 1<<32 + 1, math.MaxInt - 1, math.MaxInt}

// create, gone, set, add and remove are edits, as parts of events.
func create(key string) api.Event { return api.Event{Kind: api.Create, Key: key} }

func gone(key string) api.Event { return api.Event{Kind: api.Delete, Key: key} }

func set(key string, label int, value string) api.Event {
	return api.Event{Kind: api.Set, Key: key, Label: label, Value: value}
}

func add(key string, label int, value string) api.Event {
	return api.Event{Kind: api.Add, Key: key, Label: label, Value: value}
}

func remove(key string, label int, value string) api.Event {
	return api.Event{Kind: api.Remove, Key: key, Label: label, Value: value}
}

// by is this edit, as an event of a replica, that had seen what seen says, whether it may be or not.
func by(r, n, height int, edit api.Event, seen ...int) api.Event {
	e := edit
	e.R, e.N, e.Height = r, n, height
	copy(e.Ctx[:], seen)
	return e
}

// alone is the past of these edits, of 0 alone: each had seen those ahead of it.
func alone(edits ...api.Event) []api.Event {
	var l []api.Event
	for i, e := range edits {
		l = append(l, by(0, i+1, i+1, e, i))
	}
	return l
}

// made is a contact: of each label its field, none of "", and its set, each value a byte.
func made(key, name, note, phones, mails string) api.Contact {
	c := api.Contact{Key: key, Field: [api.Labels]string{name, note}, Has: [api.Labels]bool{name != "", note != ""}}
	for label, values := range []string{phones, mails} {
		if values != "" {
			c.Sets[label] = strings.Split(values, "")
		}
	}
	return c
}

// same tells whether two lists of contacts are one, an empty list and none being the same.
func same(a, b []api.Contact) bool {
	return slices.EqualFunc(a, b, func(a, b api.Contact) bool {
		for label := range a.Sets {
			if !slices.Equal(a.Sets[label], b.Sets[label]) {
				return false
			}
		}
		return a.Key == b.Key && a.Has == b.Has && a.Field == b.Field
	})
}

// below is event.Below word by word.
func below(a, b api.Event) bool {
	return a.R >= 0 && a.R < 5 && a.N >= 1 && a.N <= b.Ctx[a.R]
}

// above tells whether an event of l is above e, and like this.
func above(l []api.Event, e api.Event, like func(f api.Event) bool) bool {
	return slices.ContainsFunc(l, func(f api.Event) bool { return below(e, f) && like(f) })
}

// wantedLives is what P9.1 says of a Create, word by word.
func wantedLives(l []api.Event, e api.Event) bool {
	return e.Kind == api.Create && !above(l, e, func(f api.Event) bool { return f.Kind == api.Delete && f.Key == e.Key })
}

// wantedCounts is what P9.1 says of a Set or an Add, word by word.
func wantedCounts(l []api.Event, e api.Event) bool {
	if e.Kind != api.Set && e.Kind != api.Add {
		return false
	}
	if !slices.ContainsFunc(l, func(c api.Event) bool { return c.Key == e.Key && below(c, e) && wantedLives(l, c) }) {
		return false
	}
	return e.Kind == api.Set || !above(l, e, func(f api.Event) bool {
		return f.Kind == api.Remove && f.Key == e.Key && f.Label == e.Label && f.Value == e.Value
	})
}

// wantedField is what P9.2 says of a field, word by word: of those of which none is later the first one.
func wantedField(l []api.Event, key string, label int) (bool, string) {
	var sets []api.Event
	for _, e := range l {
		if e.Kind == api.Set && e.Key == key && e.Label == label && wantedCounts(l, e) {
			sets = append(sets, e)
		}
	}
	for _, e := range sets {
		if !slices.ContainsFunc(sets, func(f api.Event) bool { return e.Height < f.Height || e.Height == f.Height && e.R < f.R }) {
			return true, e.Value
		}
	}
	return false, ""
}

// wantedSet is what P9.2 says of a set, word by word.
func wantedSet(l []api.Event, key string, label int) []string {
	var set []string
	for _, e := range l {
		if e.Kind == api.Add && e.Key == key && e.Label == label && wantedCounts(l, e) && !slices.Contains(set, e.Value) {
			set = append(set, e.Value)
		}
	}
	slices.Sort(set)
	return set
}

// wantedOf is P9.2 word by word.
func wantedOf(l []api.Event) []api.Contact {
	var keys []string
	for _, e := range l {
		if wantedLives(l, e) && !slices.Contains(keys, e.Key) {
			keys = append(keys, e.Key)
		}
	}
	slices.Sort(keys)
	var book []api.Contact
	for _, key := range keys {
		c := api.Contact{Key: key}
		for label := range 2 {
			c.Has[label], c.Field[label] = wantedField(l, key, label)
			c.Sets[label] = wantedSet(l, key, label)
		}
		book = append(book, c)
	}
	return book
}

// wantedKept is what P9.3 counts, word by word.
func wantedKept(l []api.Event) []api.Event {
	var kept []api.Event
	for _, e := range l {
		like := func(f api.Event) bool {
			return f.Kind == e.Kind && f.Key == e.Key && f.Label == e.Label && (e.Kind == api.Set || f.Value == e.Value)
		}
		if wantedLives(l, e) || wantedCounts(l, e) && !above(l, e, like) {
			kept = append(kept, e)
		}
	}
	return kept
}

// check holds Of and Size of l against what P9.1 to P9.3 say, and, by R7, that l is left as it was.
func check(t *testing.T, l []api.Event) {
	t.Helper()
	was := slices.Clone(l)
	if got, want := Of(l), wantedOf(was); !same(got, want) {
		t.Errorf("Of %v is %v instead of %v", was, got, want)
	}
	if got, want := Size(l), len(wantedKept(was)); got != want {
		t.Errorf("Size of %v is %d instead of %d", was, got, want)
	}
	if !slices.Equal(l, was) {
		t.Errorf("%v is made of %v", l, was)
	}
}

// A row is a list, and what is wanted of it.
type row struct {
	l    []api.Event
	want []api.Contact
	size int
}

// checkRows holds Of and Size of each list against what is told there, and what P9.1 to P9.3 say.
func checkRows(t *testing.T, rows []row) {
	t.Helper()
	for i, x := range rows {
		if got := Of(x.l); !same(got, x.want) {
			t.Errorf("%d: Of %v is %v instead of %v", i, x.l, got, x.want)
		}
		if got := Size(x.l); got != x.size {
			t.Errorf("%d: Size of %v is %d instead of %d", i, x.l, got, x.size)
		}
		check(t, x.l)
	}
}

// lists calls f with each list of up to n of these events.
func lists(of []api.Event, n int, f func([]api.Event)) {
	var longer func(l []api.Event)
	longer = func(l []api.Event) {
		f(l)
		if len(l) == n {
			return
		}
		for _, e := range of {
			longer(append(slices.Clone(l), e))
		}
	}
	longer(nil)
}

// pasts calls f with each right past of up to n of these edits, of two replicas, in an order in which they may come.
func pasts(edits []api.Event, n int, f func([]api.Event)) {
	var longer func(l []api.Event)
	longer = func(l []api.Event) {
		f(l)
		if len(l) == n {
			return
		}
		there := past.Clock(l)
		for r := range 2 {
			for seen := range there[1-r] + 1 {
				var c api.Clock
				c[r], c[1-r] = there[r], seen
				for _, e := range edits {
					e.R, e.N, e.Ctx, e.Height = r, there[r]+1, c, past.Height(l, c)
					if longerOne := append(slices.Clone(l), e); past.Right(longerOne) {
						longer(longerOne)
					}
				}
			}
		}
	}
	longer(nil)
}

// edited is an edit by chance: most are of one contact, so that they meet.
func edited(chance *rand.Rand) api.Event {
	e := api.Event{Kind: 1 + chance.Intn(5), Key: []string{"a", "a", "a", "b", "ab"}[chance.Intn(5)]}
	if e.Kind > api.Delete {
		e.Label, e.Value = chance.Intn(2), string(rune('0'+chance.Intn(3)))
	}
	if e.Kind == api.Delete && chance.Intn(2) == 0 {
		e.Kind = api.Create
	}
	return e
}

// byChance is a right past, of up to five replicas that edit, and get events of each other, by chance: each behind what is below it.
func byChance(chance *rand.Rand, most int) []api.Event {
	var l []api.Event
	var saw [api.Replicas]api.Clock
	replicas := 1 + chance.Intn(api.Replicas)
	for len(l) < most {
		r, from := chance.Intn(replicas), chance.Intn(replicas)
		if chance.Intn(3) == 0 {
			saw[r] = clock.Join(saw[r], saw[from])
			continue
		}
		e := edited(chance)
		e.R, e.N, e.Ctx, e.Height = r, saw[r][r]+1, saw[r], past.Height(l, saw[r])
		saw[r][r]++
		l = append(l, e)
	}
	return l
}

// shuffled is l anew, in an order by chance.
func shuffled(chance *rand.Rand, l []api.Event) []api.Event {
	s := slices.Clone(l)
	chance.Shuffle(len(s), func(i, k int) { s[i], s[k] = s[k], s[i] })
	return s
}

// other is a number near n, or one of the edges.
func other(chance *rand.Rand, n int) int {
	if chance.Intn(4) == 0 {
		return edges[chance.Intn(len(edges))]
	}
	return n + chance.Intn(5) - 2
}

// spoilt is l anew, with one thing by chance that may be another one.
func spoilt(chance *rand.Rand, l []api.Event) []api.Event {
	s := slices.Clone(l)
	i := chance.Intn(len(s))
	e := &s[i]
	switch chance.Intn(10) {
	case 0:
		e.R = other(chance, e.R)
	case 1:
		e.N = other(chance, e.N)
	case 2, 3:
		r := chance.Intn(api.Replicas)
		e.Ctx[r] = other(chance, e.Ctx[r])
	case 4:
		e.Height = other(chance, e.Height)
	case 5:
		e.Kind = other(chance, e.Kind)
	case 6:
		e.Label = other(chance, e.Label)
	case 7:
		e.Key, e.Value = []string{"", "a", "A\x00\xff"}[chance.Intn(3)], []string{"", "0", "a row of many bytes"}[chance.Intn(3)]
	case 8:
		return slices.Delete(s, i, i+1)
	case 9:
		return append(s, s[chance.Intn(len(s))])
	}
	return s
}

// P9.1, P9.2 and P9.3
func TestTable(t *testing.T) {
	checkRows(t, []row{
		{nil, nil, 0},
		{[]api.Event{}, nil, 0},
		{alone(create("cy")), []api.Contact{made("cy", "", "", "", "")}, 1},
		{alone(create("cy"), gone("cy")), nil, 0},
		{alone(gone("cy"), create("cy")), []api.Contact{made("cy", "", "", "", "")}, 1},
		{alone(create("cy"), gone("b")), []api.Contact{made("cy", "", "", "", "")}, 1},
		{alone(create("cy"), create("cy")), []api.Contact{made("cy", "", "", "", "")}, 2},
		{alone(create("cy"), gone("cy"), create("cy")), []api.Contact{made("cy", "", "", "", "")}, 1},
		// Nothing without a Create.
		{alone(set("cy", 0, "x"), add("cy", 0, "7")), nil, 0},
		{alone(set("cy", 0, "x"), create("cy")), []api.Contact{made("cy", "", "", "", "")}, 1},
		{alone(create("cy"), set("b", 0, "x"), add("b", 0, "7")), []api.Contact{made("cy", "", "", "", "")}, 1},
		// Fields.
		{alone(create("cy"), set("cy", 0, "x")), []api.Contact{made("cy", "x", "", "", "")}, 2},
		{alone(create("cy"), set("cy", 1, "x")), []api.Contact{made("cy", "", "x", "", "")}, 2},
		{alone(create("cy"), set("cy", 1, "x"), set("cy", 0, "y"), set("cy", 1, "a")), []api.Contact{made("cy", "y", "a", "", "")}, 3},
		{alone(create("cy"), set("cy", 0, "x"), gone("cy"), create("cy")), []api.Contact{made("cy", "", "", "", "")}, 1},
		{alone(create("cy"), create("cy"), set("cy", 0, "x")), []api.Contact{made("cy", "x", "", "", "")}, 3},
		// Sets, each value once, rising.
		{alone(create("cy"), add("cy", 0, "7")), []api.Contact{made("cy", "", "", "7", "")}, 2},
		{alone(create("cy"), add("cy", 1, "7"), add("cy", 1, "3"), add("cy", 0, "5")), []api.Contact{made("cy", "", "", "5", "37")}, 4},
		{alone(create("cy"), add("cy", 0, "7"), add("cy", 0, "3"), add("cy", 0, "7")), []api.Contact{made("cy", "", "", "37", "")}, 3},
		{alone(create("cy"), add("cy", 0, "7"), remove("cy", 0, "7")), []api.Contact{made("cy", "", "", "", "")}, 1},
		{alone(create("cy"), add("cy", 0, "7"), remove("cy", 0, "7"), add("cy", 0, "7")), []api.Contact{made("cy", "", "", "7", "")}, 2},
		// A Remove of another key, label or value.
		{alone(create("cy"), add("cy", 0, "7"), remove("b", 0, "7"), remove("cy", 1, "7"), remove("cy", 0, "8")), []api.Contact{made("cy", "", "", "7", "")}, 2},
		// Neither is a field's, nor is a Set an Add.
		{alone(create("cy"), set("cy", 0, "7"), remove("cy", 0, "7")), []api.Contact{made("cy", "7", "", "", "")}, 2},
		{alone(create("cy"), set("cy", 0, "7"), add("cy", 0, "7"), set("cy", 0, "7")), []api.Contact{made("cy", "7", "", "7", "")}, 3},
		// A Remove leaves nothing to be kept, be there an Add or not.
		{alone(create("cy"), remove("cy", 0, "7")), []api.Contact{made("cy", "", "", "", "")}, 1},
		// Contacts rise by their keys, byte by byte.
		{alone(create("b"), create("ab"), create("a"), create("b0"), create("a9")), []api.Contact{made("a", "", "", "", ""), made("a9", "", "", "", ""), made("ab", "", "", "", ""), made("b", "", "", "", ""), made("b0", "", "", "", "")}, 5},
		{alone(create("b"), create("a"), set("b", 0, "y"), set("a", 0, "x"), gone("b")), []api.Contact{made("a", "x", "", "", "")}, 2},
	})
}

// P9.1 to P9.3: replicas that had not seen each other.
func TestApart(t *testing.T) {
	c := by(0, 1, 1, create("cy"))
	checkRows(t, []row{
		// The example: what is set into a contact that was deleted is not of the one that is made anew.
		{[]api.Event{c, by(1, 1, 2, set("cy", 0, "1"), 1), by(0, 2, 2, gone("cy"), 1), by(0, 3, 3, create("cy"), 2)}, []api.Contact{made("cy", "", "", "", "")}, 1},
		// A Delete takes what it had seen alone.
		{[]api.Event{c, by(1, 1, 1, create("cy")), by(0, 2, 2, gone("cy"), 1)}, []api.Contact{made("cy", "", "", "", "")}, 1},
		{[]api.Event{c, by(1, 1, 1, create("cy")), by(0, 2, 2, gone("cy"), 1, 1)}, nil, 0},
		{[]api.Event{c, by(1, 1, 1, create("cy")), by(0, 2, 2, gone("cy"), 1), by(1, 2, 2, gone("cy"), 0, 1)}, nil, 0},
		// What had seen both is of the one that is left.
		{[]api.Event{c, by(1, 1, 1, create("cy")), by(1, 2, 2, set("cy", 0, "x"), 1, 1), by(0, 2, 2, gone("cy"), 1)}, []api.Contact{made("cy", "x", "", "", "")}, 2},
		{[]api.Event{c, by(1, 1, 1, create("cy")), by(1, 2, 2, set("cy", 0, "x"), 0, 1), by(0, 2, 2, gone("cy"), 1)}, []api.Contact{made("cy", "x", "", "", "")}, 2},
		{[]api.Event{c, by(1, 1, 1, create("cy")), by(0, 2, 2, set("cy", 0, "x"), 1), by(0, 3, 3, gone("cy"), 2)}, []api.Contact{made("cy", "", "", "", "")}, 1},
		// Two writes: the higher one, then the one of the higher replica; both are kept.
		{[]api.Event{c, by(1, 1, 2, set("cy", 0, "x"), 1), by(2, 1, 2, set("cy", 0, "w"), 1)}, []api.Contact{made("cy", "w", "", "", "")}, 3},
		{[]api.Event{c, by(2, 1, 2, set("cy", 0, "w"), 1), by(1, 1, 2, set("cy", 0, "x"), 1)}, []api.Contact{made("cy", "w", "", "", "")}, 3},
		{[]api.Event{c, by(1, 1, 2, add("cy", 0, "x"), 1), by(1, 2, 3, set("cy", 0, "x"), 1, 1), by(2, 1, 2, set("cy", 0, "w"), 1)}, []api.Contact{made("cy", "x", "", "x", "")}, 4},
		// The last one of those that count, not the last one of all.
		{[]api.Event{by(0, 1, 1, set("cy", 0, "x")), by(1, 1, 1, create("cy")), by(1, 2, 2, set("cy", 0, "y"), 0, 1), by(0, 2, 9, set("cy", 0, "z"), 1)}, []api.Contact{made("cy", "y", "", "", "")}, 2},
		// Of one stamp the first one.
		{[]api.Event{c, by(1, 1, 2, set("cy", 0, "x"), 1), by(1, 2, 2, set("cy", 0, "y"), 1)}, []api.Contact{made("cy", "x", "", "", "")}, 3},
		{[]api.Event{c, by(1, 2, 2, set("cy", 0, "y"), 1), by(1, 1, 2, set("cy", 0, "x"), 1)}, []api.Contact{made("cy", "y", "", "", "")}, 3},
		// A Remove takes the Adds that it had seen alone; two Adds apart are one value, and both are kept.
		{[]api.Event{c, by(1, 1, 2, add("cy", 0, "7"), 1), by(2, 1, 2, add("cy", 0, "7"), 1)}, []api.Contact{made("cy", "", "", "7", "")}, 3},
		{[]api.Event{c, by(1, 1, 2, add("cy", 0, "7"), 1), by(2, 1, 2, add("cy", 0, "7"), 1), by(1, 2, 3, remove("cy", 0, "7"), 1, 1)}, []api.Contact{made("cy", "", "", "7", "")}, 2},
		{[]api.Event{c, by(1, 1, 2, add("cy", 0, "7"), 1), by(2, 1, 2, add("cy", 0, "7"), 1), by(1, 2, 3, remove("cy", 0, "7"), 1, 1, 1)}, []api.Contact{made("cy", "", "", "", "")}, 1},
		// In any order: what is below may stand behind.
		{[]api.Event{by(1, 2, 3, remove("cy", 0, "7"), 1, 1), by(1, 1, 2, add("cy", 0, "7"), 1), by(1, 3, 4, add("cy", 0, "8"), 1, 2), c}, []api.Contact{made("cy", "", "", "8", "")}, 2},
	})
}

// P9.1 to P9.3: lists that are no right past.
func TestListsThatAreNoPast(t *testing.T) {
	c, x, y := by(0, 1, 1, create("cy")), by(0, 2, 2, set("cy", 0, "x"), 1), by(1, 1, 2, add("cy", 0, "7"), 1)
	checkRows(t, []row{
		// The same one twice.
		{[]api.Event{c, c, x, x, y, y}, []api.Contact{made("cy", "x", "", "7", "")}, 6},
		{[]api.Event{c, c, by(0, 2, 2, gone("cy"), 1), by(0, 2, 2, gone("cy"), 1)}, nil, 0},
		// Above itself.
		{[]api.Event{c, by(0, 2, 2, set("cy", 0, "x"), 2)}, []api.Contact{made("cy", "x", "", "", "")}, 1},
		{[]api.Event{c, by(0, 2, 2, add("cy", 0, "x"), 2)}, []api.Contact{made("cy", "", "", "x", "")}, 1},
		{[]api.Event{by(0, 1, 1, create("cy"), 1)}, []api.Contact{made("cy", "", "", "", "")}, 1},
		// Each below the other one.
		{[]api.Event{by(0, 1, 1, create("cy"), 0, 1), by(1, 1, 1, gone("cy"), 1)}, nil, 0},
		{[]api.Event{c, by(0, 2, 2, set("cy", 0, "x"), 1, 1), by(1, 1, 2, set("cy", 0, "y"), 2)}, []api.Contact{made("cy", "y", "", "", "")}, 1},
		// Below what is below it is nothing, if its own clock does not say so.
		{[]api.Event{c, by(1, 1, 2, gone("b"), 1), by(2, 1, 3, gone("cy"), 0, 1)}, []api.Contact{made("cy", "", "", "", "")}, 1},
		// Covered by one that does not count; not by one of another label, or value, or key.
		{[]api.Event{by(1, 1, 1, create("cy")), by(0, 1, 2, set("cy", 0, "x"), 0, 1), by(2, 1, 3, set("cy", 0, "y"), 1)}, []api.Contact{made("cy", "x", "", "", "")}, 1},
		{[]api.Event{by(1, 1, 1, create("cy")), by(0, 1, 2, add("cy", 0, "x"), 0, 1), by(2, 1, 3, add("cy", 0, "x"), 1)}, []api.Contact{made("cy", "", "", "x", "")}, 1},
		{[]api.Event{by(1, 1, 1, create("cy")), by(0, 1, 2, add("cy", 0, "x"), 0, 1), by(2, 1, 3, add("cy", 1, "x"), 1), by(2, 2, 3, add("cy", 0, "y"), 1), by(2, 3, 3, add("b", 0, "x"), 1)}, []api.Contact{made("cy", "", "", "x", "")}, 2},
		{[]api.Event{by(1, 1, 1, create("cy")), by(0, 1, 2, set("cy", 0, "x"), 0, 1), by(2, 1, 3, set("cy", 1, "x"), 1), by(2, 3, 3, set("b", 0, "x"), 1)}, []api.Contact{made("cy", "x", "", "", "")}, 2},
		// Gaps: each number that is not above the clock's was seen.
		{[]api.Event{by(0, 5, 1, create("cy")), by(1, 1, 2, set("cy", 0, "x"), 9)}, []api.Contact{made("cy", "x", "", "", "")}, 2},
		{[]api.Event{by(0, 5, 1, create("cy")), by(1, 1, 2, set("cy", 0, "x"), 4)}, []api.Contact{made("cy", "", "", "", "")}, 1},
		{[]api.Event{by(0, 5, 1, create("cy")), by(0, 3, 1, create("cy")), by(0, 4, 1, create("cy")), by(1, 1, 2, set("cy", 0, "x"), 3)}, []api.Contact{made("cy", "x", "", "", "")}, 4},
		// The first one that lives, not the first one.
		{[]api.Event{by(0, 1, 1, create("cy")), by(0, 5, 1, create("cy")), by(1, 1, 1, gone("cy"), 3), by(2, 1, 2, set("cy", 0, "x"), 4)}, []api.Contact{made("cy", "", "", "", "")}, 1},
		// Texts that may not be are texts; a Create's and a Delete's labels and values are nothing.
		{[]api.Event{by(0, 1, 1, create("")), by(0, 2, 2, set("", 0, ""), 1), by(0, 3, 3, add("", 1, ""), 2)}, []api.Contact{{Has: [2]bool{true, false}, Sets: [2][]string{nil, {""}}}}, 3},
		{[]api.Event{by(0, 1, 1, api.Event{Kind: api.Create, Key: "cy", Label: 9, Value: "v"}), by(0, 2, 2, api.Event{Kind: api.Delete, Key: "cy", Label: -4, Value: "w"}, 1)}, nil, 0},
		{[]api.Event{by(0, 1, 1, create("\xff")), by(0, 2, 2, create("\x00")), by(0, 3, 3, create("z")), by(0, 4, 4, create("\x00\x00"))}, []api.Contact{made("\x00", "", "", "", ""), made("\x00\x00", "", "", "", ""), made("z", "", "", "", ""), made("\xff", "", "", "", "")}, 4},
	})
}

// P9.2 and P9.3, by R1: a label that there is not is listed nowhere; what counts of it is kept all the same.
func TestLabelsThatThereAreNot(t *testing.T) {
	for _, label := range edges {
		l := alone(create("cy"), set("cy", label, "x"), add("cy", label, "7"), set("cy", label, "y"), add("cy", label, "8"), remove("cy", label, "8"))
		want := made("cy", "", "", "", "")
		if label == 0 || label == 1 {
			want.Has[label], want.Field[label], want.Sets[label] = true, "y", []string{"7"}
		}
		if got := Of(l); !same(got, []api.Contact{want}) {
			t.Errorf("Of label %d is %v", label, got)
		}
		if got := Size(l); got != 3 {
			t.Errorf("Size of label %d is %d", label, got)
		}
	}
}

// P9.1, by R1: a kind that there is not does nothing.
func TestKindsThatThereAreNot(t *testing.T) {
	for _, kind := range edges {
		if kind >= api.Create && kind <= api.Remove {
			continue
		}
		l := alone(create("cy"), set("cy", 0, "x"), add("cy", 0, "7"), api.Event{Kind: kind, Key: "cy", Value: "7"}, api.Event{Kind: kind, Key: "b", Value: "7"})
		if got := Of(l); !same(got, []api.Contact{made("cy", "x", "", "7", "")}) {
			t.Errorf("Of kind %d is %v", kind, got)
		}
		if got := Size(l); got != 3 {
			t.Errorf("Size of kind %d is %d", kind, got)
		}
	}
}

// P9.1, by R1: what no clock has is below none, whatever its numbers are; a clock that may not be has what clock.Has says.
func TestMarksAndClocksWithoutBound(t *testing.T) {
	for _, n := range edges {
		for _, m := range edges {
			check(t, []api.Event{by(0, n, 1, create("a")), by(1, 1, 2, set("a", 0, "x"), m), by(1, 2, 2, add("a", 0, "7"), m), by(1, 3, 3, gone("a"), m/2)})
			check(t, []api.Event{by(n, 1, 1, create("a")), by(n, m, 2, set("a", 0, "x"), 1, 1, 1, 1, 1), by(n, m, 2, add("a", 0, "7"), 1, 1, 1, 1, 1), by(3, 2, 3, remove("a", 0, "7"), m, m, m, m, m)})
			check(t, []api.Event{by(2, 1, 1, create("a")), by(0, 1, n, set("a", 0, "x"), 0, 0, 1), by(1, 1, m, set("a", 0, "y"), 0, 0, 1), by(2, 2, n, set("a", 0, "z"), 0, 0, 1)})
		}
	}
}

// P9.1 to P9.3: each of a few events, whether it fits the others or not.
func TestAllSmallLists(t *testing.T) {
	var pool []api.Event
	for _, e := range []api.Event{create("a"), gone("a"), set("a", 0, "x"), add("a", 0, "x"), remove("a", 0, "x")} {
		for _, n := range []int{1, 2} {
			for _, c := range [][]int{{0, 0}, {1, 0}, {2, 1}} {
				pool = append(pool, by(0, n, n, e, c...))
			}
		}
		pool = append(pool, by(1, 1, 2, e, 1, 1))
	}
	lists(pool, 3, func(l []api.Event) { check(t, l) })
	few := []api.Event{by(0, 1, 1, create("a")), by(1, 1, 2, set("a", 1, "x"), 1), by(0, 2, 2, set("a", 1, "y"), 1), by(0, 3, 3, gone("a"), 1), by(1, 2, 3, create("a"), 1, 1), by(0, 4, 4, set("a", 1, "z"), 3, 2)}
	lists(few, 5, func(l []api.Event) { check(t, l) })
}

// checkPast holds the right past l against P9.1 to P9.3, and P9.5: what is kept is enough.
func checkPast(t *testing.T, l []api.Event) {
	t.Helper()
	check(t, l)
	kept := wantedKept(l)
	if got, want := Of(kept), Of(l); !same(got, want) {
		t.Errorf("Of what is kept of %v is %v instead of %v", l, got, want)
	}
	if got := Size(kept); got != len(kept) {
		t.Errorf("Size of what is kept of %v is %d instead of %d", l, got, len(kept))
	}
}

// P9.1 to P9.3 and P9.5
func TestAllSmallPasts(t *testing.T) {
	count := 0
	seen := func(l []api.Event) {
		count++
		checkPast(t, l)
		back := slices.Clone(l)
		slices.Reverse(back)
		if !same(Of(back), Of(l)) || Size(back) != Size(l) {
			t.Errorf("turned about, %v comes to %v", l, Of(back))
		}
	}
	pasts([]api.Event{create("a"), gone("a"), set("a", 0, "x"), set("a", 0, "y"), add("a", 0, "x"), remove("a", 0, "x")}, 3, seen)
	pasts([]api.Event{create("a"), gone("a"), set("a", 0, "x")}, 4, seen)
	pasts([]api.Event{create("a"), add("a", 1, "x"), remove("a", 1, "x")}, 4, seen)
	if count < 10000 {
		t.Errorf("just %d pasts", count)
	}
}

// P9.1 to P9.3 and P9.5: in whichever order the events came.
func TestPastsByChance(t *testing.T) {
	chance := rand.New(rand.NewSource(95))
	for range 600 {
		l := byChance(chance, chance.Intn(40))
		checkPast(t, l)
		for range 3 {
			s := shuffled(chance, l)
			if got, want := Of(s), Of(l); !same(got, want) || Size(s) != Size(l) || string(Bytes(got)) != string(Bytes(want)) {
				t.Errorf("Of %v is %v instead of %v, as Of %v", s, got, want, l)
			}
		}
	}
}

// P9.1 to P9.3: pasts by chance with a thing or two that are wrong.
func TestSpoiltPasts(t *testing.T) {
	chance := rand.New(rand.NewSource(91))
	for range 3000 {
		l := byChance(chance, 1+chance.Intn(20))
		for range 1 + chance.Intn(6) {
			if len(l) > 0 {
				l = spoilt(chance, l)
			}
		}
		check(t, l)
		check(t, shuffled(chance, l))
	}
}

// P9.1 to P9.3: as many events as a replica may have, of one contact; and many contacts.
func TestLongPast(t *testing.T) {
	l := []api.Event{by(0, 1, 1, create("a"))}
	for n := 2; n <= api.MaxEvents; n++ {
		e := set("a", 1, "old")
		if n%2 == 0 {
			e = add("a", 0, strings.Repeat("7", 1+n%12))
		}
		l = append(l, by(0, n, n, e, n-1))
	}
	l[len(l)-1].Value, l[len(l)-2].Value = "777", "last"
	got := Of(l)
	if len(got) != 1 || got[0].Field[1] != "last" || len(got[0].Sets[0]) != 6 || Size(l) != 1+1+6 {
		t.Errorf("Of the long past is %v, its Size %d", got, Size(l))
	}
	l = l[:1<<16]
	for i := range l {
		l[i].Kind, l[i].Key = api.Create, string([]byte{byte(i >> 8), byte(i)})
	}
	if got := Of(l); len(got) != len(l) || got[0].Key != "\x00\x00" || got[len(l)-1].Key != "\xff\xff" || Size(l) != len(l) {
		t.Errorf("%d contacts of the long past, its Size %d", len(got), Size(l))
	}
}

// P9.2, by R7: what is told is the caller's own, and no set is another one's.
func TestOfIsItsOwn(t *testing.T) {
	l := alone(create("a"), create("b"), add("a", 0, "1"), add("a", 0, "2"), add("a", 0, "1"), add("a", 1, "1"), add("b", 0, "2"), add("b", 0, "1"))
	was, want := slices.Clone(l), wantedOf(l)
	got := Of(l)
	for i := range got {
		for label := range got[i].Sets {
			// Behind each set too.
			_ = append(got[i].Sets[label], "more", "more")
		}
	}
	if !same(got, want) {
		t.Errorf("what is put behind the sets is seen: %v", got)
	}
	for i := range got {
		for label := range got[i].Sets {
			for k := range got[i].Sets[label] {
				got[i].Sets[label][k] = "changed"
			}
		}
		got[i].Key = "changed"
	}
	if !slices.Equal(l, was) || !same(Of(l), want) {
		t.Error("what became of the answer is seen")
	}
	got = Of(l)
	for i := range l {
		l[i] = api.Event{}
	}
	if !same(got, want) {
		t.Errorf("what became of the list made %v of %v", got, want)
	}
}

// P9.1 to P9.4, by R6: the same list has the same answers each time, whatever was asked in between.
func TestAnswersHangOnTheirListAlone(t *testing.T) {
	l := alone(create("b"), create("a"), set("a", 0, "x"), add("a", 0, "7"), add("a", 0, "3"), create("c"), gone("b"))
	want := []api.Contact{made("a", "x", "", "37", ""), made("c", "", "", "", "")}
	for range 20 {
		if got := Of(l); !same(got, want) || Size(l) != 5 {
			t.Errorf("Of the list is %v, its Size %d", got, Size(l))
		}
		if Of(l[:1])[0].Key != "b" || Of(nil) != nil && len(Of(nil)) > 0 || Size(nil) != 0 {
			t.Error("the other lists")
		}
		if string(Bytes(want)) != "\x01a\x01\x01x\x00\x02\x013\x017\x00\x01c\x00\x00\x00\x00" || len(Bytes(nil)) != 0 {
			t.Error("the bytes")
		}
	}
}

// wantedNumber is varint.Put word by word, of a length.
func wantedNumber(n int) string {
	var b []byte
	for ; n >= 128; n /= 128 {
		b = append(b, byte(n%128+128))
	}
	return string(append(b, byte(n)))
}

// wantedBytes is P9.4 word by word.
func wantedBytes(l []api.Contact) string {
	s := ""
	for _, c := range l {
		s += wantedNumber(len(c.Key)) + c.Key
		for label := range 2 {
			if c.Has[label] {
				s += "\x01" + wantedNumber(len(c.Field[label])) + c.Field[label]
			} else {
				s += "\x00"
			}
		}
		for label := range 2 {
			s += wantedNumber(len(c.Sets[label]))
			for _, value := range c.Sets[label] {
				s += wantedNumber(len(value)) + value
			}
		}
	}
	return s
}

// copied is l anew, with its sets.
func copied(l []api.Contact) []api.Contact {
	c := slices.Clone(l)
	for i := range c {
		for label := range c[i].Sets {
			c[i].Sets[label] = slices.Clone(c[i].Sets[label])
		}
	}
	return c
}

// checkBytes holds Bytes of l against what P9.4 says, and, by R7, that l is left as it was.
func checkBytes(t *testing.T, l []api.Contact) {
	t.Helper()
	was := copied(l)
	if got, want := string(Bytes(l)), wantedBytes(was); got != want {
		t.Errorf("Bytes of %v are %x instead of %x", was, got, want)
	}
	if !reflect.DeepEqual(l, was) {
		t.Errorf("%v is made of %v", l, was)
	}
}

// P9.4
func TestBytesTable(t *testing.T) {
	long := strings.Repeat("x", 300)
	for i, x := range []struct {
		l    []api.Contact
		want string
	}{
		{nil, ""},
		{[]api.Contact{}, ""},
		{[]api.Contact{{}}, "\x00\x00\x00\x00\x00"},
		{[]api.Contact{made("cy", "", "", "", "")}, "\x02cy\x00\x00\x00\x00"},
		{[]api.Contact{made("cy", "x", "", "", "")}, "\x02cy\x01\x01x\x00\x00\x00"},
		{[]api.Contact{made("cy", "", "xy", "", "")}, "\x02cy\x00\x01\x02xy\x00\x00"},
		{[]api.Contact{made("cy", "a", "b", "37", "5")}, "\x02cy\x01\x01a\x01\x01b\x02\x013\x017\x01\x015"},
		{[]api.Contact{made("cy", "", "", "", "5")}, "\x02cy\x00\x00\x00\x01\x015"},
		{[]api.Contact{made("a", "", "", "", ""), made("b", "", "", "1", "")}, "\x01a\x00\x00\x00\x00\x01b\x00\x00\x01\x011\x00"},
		// In the order in which they stand, as often as they do.
		{[]api.Contact{made("b", "", "", "73", ""), made("a", "", "", "77", ""), made("b", "", "", "", "")}, "\x01b\x00\x00\x02\x017\x013\x00\x01a\x00\x00\x02\x017\x017\x00\x01b\x00\x00\x00\x00"},
		// Empty texts.
		{[]api.Contact{{Has: [2]bool{true, true}, Sets: [2][]string{{""}, {"", ""}}}}, "\x00\x01\x00\x01\x00\x01\x00\x02\x00\x00"},
		// A field that there is not is not told.
		{[]api.Contact{{Key: "a", Field: [2]string{"x", "y"}}}, "\x01a\x00\x00\x00\x00"},
		{[]api.Contact{{Key: "a", Has: [2]bool{false, true}, Field: [2]string{"x", "y"}}}, "\x01a\x00\x01\x01y\x00\x00"},
		// Lengths of more than a byte.
		{[]api.Contact{made(long[:127], "", "", "", "")}, "\x7f" + long[:127] + "\x00\x00\x00\x00"},
		{[]api.Contact{made(long[:128], "", "", "", "")}, "\x80\x01" + long[:128] + "\x00\x00\x00\x00"},
		{[]api.Contact{made(long, long, "", "", "")}, "\xac\x02" + long + "\x01\xac\x02" + long + "\x00\x00\x00"},
		{[]api.Contact{made("a", "", long[:128], long[:128], "")}, "\x01a\x00\x01\x80\x01" + long[:128] + "\x80\x01" + strings.Repeat("\x01x", 128) + "\x00"},
		{[]api.Contact{{Sets: [2][]string{nil, {long}}}}, "\x00\x00\x00\x00\x01\xac\x02" + long},
		// Any bytes.
		{[]api.Contact{made("\x00\xff", "\xff", "\x00", "\x80", "")}, "\x02\x00\xff\x01\x01\xff\x01\x01\x00\x01\x01\x80\x00"},
	} {
		if got := string(Bytes(x.l)); got != x.want {
			t.Errorf("%d: Bytes of %v are %x instead of %x", i, x.l, got, x.want)
		}
		checkBytes(t, x.l)
	}
}

// drawn is a contact by chance, of the bytes 0 to 2, so that texts and numbers look alike.
func drawn(chance *rand.Rand) api.Contact {
	text := func() string {
		b := make([]byte, chance.Intn(4))
		for i := range b {
			b[i] = byte(chance.Intn(3))
		}
		return string(b)
	}
	c := api.Contact{Key: text()}
	for label := range c.Has {
		if chance.Intn(2) == 0 {
			c.Has[label], c.Field[label] = true, text()
		}
		for range chance.Intn(4) {
			c.Sets[label] = append(c.Sets[label], text())
		}
	}
	return c
}

// checkUnlike holds these lists, of which each field that is not there is empty, against P9.5.
func checkUnlike(t *testing.T, all [][]api.Contact) {
	t.Helper()
	told := map[string][]api.Contact{}
	for _, l := range all {
		checkBytes(t, l)
		b := string(Bytes(l))
		if was, ok := told[b]; ok && !same(was, l) {
			t.Errorf("%v and %v have the Bytes %x", was, l, b)
		}
		told[b] = l
	}
}

// P9.4 and P9.5
func TestUnlikeListsHaveUnlikeBytes(t *testing.T) {
	chance := rand.New(rand.NewSource(94))
	all := [][]api.Contact{nil}
	for range 20000 {
		l := make([]api.Contact, chance.Intn(4))
		for i := range l {
			l[i] = drawn(chance)
		}
		all = append(all, l)
	}
	checkUnlike(t, all)
}

// P9.5: those of few bytes, all of them.
func TestSmallUnlikeLists(t *testing.T) {
	texts := []string{"", "\x00", "\x01"}
	var all [][]api.Contact
	for _, key := range texts {
		for _, name := range append(texts, "none") {
			for _, note := range append(texts, "none") {
				for _, sets := range [][2][]string{{nil, nil}, {{""}, nil}, {nil, {""}}, {{"\x00"}, nil}, {{"", ""}, nil}, {{""}, {""}}, {{"\x01", "\x00"}, nil}} {
					c := api.Contact{Key: key, Sets: sets}
					for label, field := range []string{name, note} {
						if field != "none" {
							c.Has[label], c.Field[label] = true, field
						}
					}
					all = append(all, []api.Contact{c}, []api.Contact{c, {}}, []api.Contact{{}, c})
				}
			}
		}
	}
	checkUnlike(t, all)
}

// P9.4, by R7: the bytes are the caller's own.
func TestBytesAreTheirOwn(t *testing.T) {
	l := []api.Contact{made("a", "x", "", "37", "")}
	b := Bytes(l)
	for i := range b {
		b[i] = 9
	}
	checkBytes(t, l)
	b = Bytes(l)
	want := wantedBytes(l)
	l[0].Sets[0][0], l[0].Key = "changed", "changed"
	if string(b) != want {
		t.Errorf("what became of the contacts made %x of %x", b, want)
	}
}

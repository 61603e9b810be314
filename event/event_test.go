package event

import (
	"bytes"
	"encoding/binary"
	"math"
	"math/rand"
	"slices"
	"strings"
	"testing"

	"kith/api"
	"kith/clock"
	"kith/text"
)

// edges are numbers next to each bound, those of bytes and of int among them.
var edges = []int{
	math.MinInt, math.MinInt + 1, -1 << 32, -256, -2, -1, 0, 1, 2, 3, 4, 5, 6, 7, 8, 9, 12, 13, 127, 128, 129, 255, 256, 257, 260, 16383, 16384, 16385,
	1<<20 - 1, 1 << 20, 1<<20 + 1, 1 << 21, 1<<24 - 1, 1 << 24, 1<<24 + 1, 1 << 28, 1 << 32, 1<<32 + 1, 1<<32 + 4, math.MaxInt - 1, math.MaxInt,
}

// samples are events that may be: of each kind, each replica, and each count of bytes of each number.
func samples() []api.Event {
	l := []api.Event{
		{R: 1, N: 1, Height: 1, Kind: api.Create, Key: "cy"},
		{R: 0, N: 300, Ctx: api.Clock{299, 1, 2, 3, 4}, Height: 301, Kind: api.Set, Key: "a", Label: 1, Value: "\xff"},
		{R: 4, N: 2, Ctx: api.Clock{0, 0, 0, 128, 1}, Height: 1 << 24, Kind: api.Remove, Key: "abcdefgh", Value: "twelve bytes"},
		{R: 2, N: 1 << 20, Ctx: api.Clock{1 << 20, 1 << 20, 1<<20 - 1, 1 << 20, 1 << 20}, Height: 1 << 24, Kind: api.Add, Key: "zzzzzzzz", Label: 1, Value: "\x00\x00\x00\x00\x00\x00\x00\x00\x00\x00\x00\x00"},
	}
	for _, n := range []int{1, 2, 127, 128, 129, 16383, 16384, 16385, 1<<20 - 1, 1 << 20} {
		for r := range api.Replicas {
			for kind := api.Create; kind <= api.Remove; kind++ {
				e := api.Event{R: r, N: n, Height: n * 16, Kind: kind, Key: "key"}
				for i := range e.Ctx {
					e.Ctx[i] = n >> i
				}
				e.Ctx[r] = n - 1
				if kind > api.Delete {
					e.Label, e.Value = r%2, "v\x80\n"
				}
				l = append(l, e)
			}
		}
	}
	return l
}

// byChance is an event that may be.
func byChance(chance *rand.Rand) api.Event {
	number := func(most int) int { return chance.Intn(most>>chance.Intn(22)+1) % (most + 1) }
	letters := func(most int, first, many int) string {
		b := make([]byte, 1+chance.Intn(most))
		for i := range b {
			b[i] = byte(first + chance.Intn(many))
		}
		return string(b)
	}
	e := api.Event{R: chance.Intn(5), N: 1 + number(1<<20-1), Height: 1 + number(1<<24-1), Kind: 1 + chance.Intn(5), Key: letters(8, 'a', 26)}
	for r := range e.Ctx {
		e.Ctx[r] = number(1 << 20)
	}
	e.Ctx[e.R] = e.N - 1
	if e.Kind > 2 {
		e.Label, e.Value = chance.Intn(2), letters(12, 0, 256)
	}
	return e
}

// spoilt is e with one thing by chance that may be another one.
func spoilt(chance *rand.Rand, e api.Event) api.Event {
	n := edges[chance.Intn(len(edges))]
	texts := []string{"", "a", "A", "abcdefghi", "twelve bytes", "thirteen byte", "\xff", "k\xc3\xa9y"}
	switch chance.Intn(8) {
	case 0:
		e.R = n
	case 1:
		e.N = n
	case 2:
		e.Ctx[chance.Intn(5)] = n
	case 3:
		e.Height = n
	case 4:
		e.Kind = n
	case 5:
		e.Key = texts[chance.Intn(len(texts))]
	case 6:
		e.Label = n
	case 7:
		e.Value = texts[chance.Intn(len(texts))]
	}
	return e
}

// wantedMay is P6.1 word by word.
func wantedMay(e api.Event) api.Errno {
	if e.R != 0 && e.R != 1 && e.R != 2 && e.R != 3 && e.R != 4 {
		return 1
	}
	ok := e.N >= 1 && e.N <= 1048576 && e.Height >= 1 && e.Height <= 16777216
	for r, n := range e.Ctx {
		ok = ok && n >= 0 && n <= 1048576 && (r != e.R || n == e.N-1)
	}
	if !ok {
		return 1
	}
	return text.Edit(api.Edit{Kind: e.Kind, Key: e.Key, Label: e.Label, Value: e.Value})
}

// wantedPut is P6.2 word by word, of an event that may be.
func wantedPut(e api.Event) []byte {
	b := []byte{byte(e.Kind), byte(e.R)}
	numbers := append([]int{e.N}, slices.Delete(slices.Clone(e.Ctx[:]), e.R, e.R+1)...)
	for _, n := range append(numbers, e.Height) {
		b = binary.AppendUvarint(b, uint64(n))
	}
	b = append(b, byte(len(e.Key)))
	b = append(b, e.Key...)
	switch e.Kind {
	case 3, 4, 5:
		b = append(b, byte(e.Label), byte(len(e.Value)))
		b = append(b, e.Value...)
	}
	return b
}

// wantedNumber is a number of b from low to high, and what is behind it: of bytes that are too few, of a form that is none, and of others.
func wantedNumber(b []byte, low, high uint64) (int, []byte, api.Errno) {
	for i := range min(len(b), 10) {
		if b[i] >= 128 {
			continue
		}
		n, used := binary.Uvarint(b)
		if used != i+1 || len(binary.AppendUvarint(nil, n)) != used || n < low || n > high {
			return 0, nil, 3
		}
		return int(n), b[used:], 0
	}
	if len(b) < 10 {
		return 0, nil, 2
	}
	return 0, nil, 3
}

// wantedOctet is a byte of b from low to high.
func wantedOctet(b []byte, low, high int) (int, []byte, api.Errno) {
	if len(b) == 0 {
		return 0, nil, 2
	}
	if int(b[0]) < low || int(b[0]) > high {
		return 0, nil, 3
	}
	return int(b[0]), b[1:], 0
}

// wantedText is a text of b and how long it is.
func wantedText(b []byte, most int, all string) (string, []byte, api.Errno) {
	n, b, e := wantedOctet(b, 1, most)
	if e != 0 {
		return "", nil, e
	}
	if len(b) < n {
		return "", nil, 2
	}
	for _, c := range b[:n] {
		if all != "" && !bytes.Contains([]byte(all), []byte{c}) {
			return "", nil, 3
		}
	}
	return string(b[:n]), b[n:], 0
}

// wantedTake is P6.3 word by word, one field behind the other.
func wantedTake(b []byte) (api.Event, int, api.Errno) {
	var v api.Event
	var e api.Errno
	rest := b
	fields := []func(){
		func() { v.Kind, rest, e = wantedOctet(rest, 1, 5) },
		func() { v.R, rest, e = wantedOctet(rest, 0, 4) },
		func() { v.N, rest, e = wantedNumber(rest, 1, 1<<20) },
	}
	for i := range 5 {
		fields = append(fields, func() {
			if i == v.R {
				v.Ctx[i] = v.N - 1
				return
			}
			v.Ctx[i], rest, e = wantedNumber(rest, 0, 1<<20)
		})
	}
	fields = append(fields,
		func() { v.Height, rest, e = wantedNumber(rest, 1, 1<<24) },
		func() { v.Key, rest, e = wantedText(rest, 8, "abcdefghijklmnopqrstuvwxyz") },
		func() {
			if v.Kind > 2 {
				v.Label, rest, e = wantedOctet(rest, 0, 1)
			}
		},
		func() {
			if v.Kind > 2 {
				v.Value, rest, e = wantedText(rest, 12, "")
			}
		},
	)
	for _, f := range fields {
		if f(); e != 0 {
			return api.Event{}, 0, e
		}
	}
	return v, len(b) - len(rest), 0
}

// checkMay holds May and Put of e against what P6.1 and P6.2 say.
func checkMay(t *testing.T, e api.Event) {
	t.Helper()
	want := wantedMay(e)
	if got := May(e); got != want {
		t.Errorf("May of %#v is %d instead of %d", e, got, want)
	}
	b, got := Put(e)
	if want != api.OK && (len(b) != 0 || got != want) {
		t.Errorf("Put of %#v is %x, %d instead of none, %d", e, b, got, want)
	}
	if want == api.OK && (!bytes.Equal(b, wantedPut(e)) || got != api.OK) {
		t.Errorf("Put of %#v is %x, %d instead of %x", e, b, got, wantedPut(e))
	}
}

// checkTake holds Take of b against what P6.3 says, and looks whether b is left as it was, and what is taken may be put.
func checkTake(t *testing.T, b []byte) {
	t.Helper()
	was := bytes.Clone(b)
	v, used, e := Take(b)
	if w, n, want := wantedTake(was); v != w || used != n || e != want {
		t.Errorf("Take of %x is %#v, %d, %d instead of %#v, %d, %d", was, v, used, e, w, n, want)
	}
	if !bytes.Equal(b, was) {
		t.Errorf("Take changed %x to %x", was, b)
	}
	if e != api.OK {
		return
	}
	if again, e := Put(v); e != api.OK || !bytes.Equal(again, was[:used]) {
		t.Errorf("of %x %d bytes are taken, and put as %x, %d", was, used, again, e)
	}
}

// P6.1
func TestMayTable(t *testing.T) {
	for _, x := range []struct {
		e    api.Event
		want api.Errno
	}{
		{api.Event{R: 1, N: 1, Height: 1, Kind: 1, Key: "cy"}, api.OK},
		{api.Event{R: 4, N: 1 << 20, Ctx: api.Clock{1 << 20, 0, 0, 0, 1<<20 - 1}, Height: 1 << 24, Kind: 2, Key: "abcdefgh"}, api.OK},
		{api.Event{N: 3, Ctx: api.Clock{2}, Height: 3, Kind: 3, Key: "a", Label: 1, Value: "v"}, api.OK},
		// Heights are not held against what was seen, nor is it held against others' events.
		{api.Event{N: 3, Ctx: api.Clock{2, 9}, Height: 1, Kind: 4, Key: "a", Value: "v"}, api.OK},
		{api.Event{N: 1, Height: 1 << 24, Kind: 5, Key: "a", Value: "v"}, api.OK},
		// Whose it is.
		{api.Event{}, api.ErrArg},
		{api.Event{R: -1, N: 1, Height: 1, Kind: 1, Key: "a"}, api.ErrArg},
		{api.Event{R: 5, N: 1, Height: 1, Kind: 1, Key: "a"}, api.ErrArg},
		{api.Event{R: math.MinInt, N: 1, Height: 1, Kind: 1, Key: "a"}, api.ErrArg},
		{api.Event{R: math.MaxInt, N: 1, Height: 1, Kind: 1, Key: "a"}, api.ErrArg},
		// Which one.
		{api.Event{N: 0, Height: 1, Kind: 1, Key: "a"}, api.ErrArg},
		{api.Event{N: 0, Ctx: api.Clock{-1}, Height: 1, Kind: 1, Key: "a"}, api.ErrArg},
		{api.Event{N: -1, Ctx: api.Clock{-2}, Height: 1, Kind: 1, Key: "a"}, api.ErrArg},
		{api.Event{N: 1<<20 + 1, Ctx: api.Clock{1 << 20}, Height: 1, Kind: 1, Key: "a"}, api.ErrArg},
		{api.Event{N: math.MinInt, Ctx: api.Clock{math.MaxInt}, Height: 1, Kind: 1, Key: "a"}, api.ErrArg},
		// What was seen.
		{api.Event{N: 1, Ctx: api.Clock{0, 1<<20 + 1}, Height: 1, Kind: 1, Key: "a"}, api.ErrArg},
		{api.Event{N: 1, Ctx: api.Clock{0, 0, 0, 0, -1}, Height: 1, Kind: 1, Key: "a"}, api.ErrArg},
		{api.Event{N: 1, Ctx: api.Clock{1}, Height: 1, Kind: 1, Key: "a"}, api.ErrArg},
		{api.Event{N: 2, Height: 1, Kind: 1, Key: "a"}, api.ErrArg},
		{api.Event{R: 3, N: 2, Ctx: api.Clock{1, 1, 1, 0, 1}, Height: 1, Kind: 1, Key: "a"}, api.ErrArg},
		{api.Event{R: 3, N: 2, Ctx: api.Clock{1, 1, 1, 2, 1}, Height: 1, Kind: 1, Key: "a"}, api.ErrArg},
		// How high it is.
		{api.Event{N: 1, Height: 0, Kind: 1, Key: "a"}, api.ErrArg},
		{api.Event{N: 1, Height: -1, Kind: 1, Key: "a"}, api.ErrArg},
		{api.Event{N: 1, Height: 1<<24 + 1, Kind: 1, Key: "a"}, api.ErrArg},
		// What it does.
		{api.Event{N: 1, Height: 1, Kind: 0, Key: "a"}, api.ErrArg},
		{api.Event{N: 1, Height: 1, Kind: 6, Key: "a", Value: "v"}, api.ErrArg},
		{api.Event{N: 1, Height: 1, Kind: 1}, api.ErrKey},
		{api.Event{N: 1, Height: 1, Kind: 5, Key: "abcdefghi", Label: 2}, api.ErrKey},
		{api.Event{N: 1, Height: 1, Kind: 1, Key: "a", Label: 1}, api.ErrLabel},
		{api.Event{N: 1, Height: 1, Kind: 2, Key: "a", Value: "v"}, api.ErrValue},
		{api.Event{N: 1, Height: 1, Kind: 3, Key: "a", Label: 2}, api.ErrLabel},
		{api.Event{N: 1, Height: 1, Kind: 3, Key: "a", Label: 1}, api.ErrValue},
		{api.Event{N: 1, Height: 1, Kind: 4, Key: "a", Value: "thirteen byte"}, api.ErrValue},
		// Several things.
		{api.Event{N: 1, Height: 0, Kind: 1, Key: "A", Label: 1, Value: "v"}, api.ErrArg},
		{api.Event{N: 2, Height: 1, Kind: 3, Key: "", Label: 2, Value: ""}, api.ErrArg},
		{api.Event{R: 9, N: 1, Height: 1, Kind: 4, Key: "a", Label: 2}, api.ErrArg},
	} {
		if got := May(x.e); got != x.want {
			t.Errorf("May of %#v is %d instead of %d", x.e, got, x.want)
		}
		if b, got := Put(x.e); got != x.want || (len(b) == 0) != (got != api.OK) {
			t.Errorf("Put of %#v is %x, %d instead of %d", x.e, b, got, x.want)
		}
	}
}

// P6.1 and P6.2: each number of an event next to each bound, and those that hang together changed together.
func TestMayEdges(t *testing.T) {
	for _, good := range samples() {
		checkMay(t, good)
		for _, n := range edges {
			for _, change := range []func(e *api.Event){
				func(e *api.Event) { e.R = n },
				func(e *api.Event) { e.N = n },
				func(e *api.Event) { e.N, e.Ctx[e.R] = n, n-1 },
				func(e *api.Event) { e.Height = n },
				func(e *api.Event) { e.Kind = n },
				func(e *api.Event) { e.Label = n },
				func(e *api.Event) { e.Ctx[0] = n },
				func(e *api.Event) { e.Ctx[1] = n },
				func(e *api.Event) { e.Ctx[2] = n },
				func(e *api.Event) { e.Ctx[3] = n },
				func(e *api.Event) { e.Ctx[4] = n },
				func(e *api.Event) { e.Kind, e.Label, e.Value = n, 0, "" },
			} {
				e := good
				change(&e)
				checkMay(t, e)
			}
		}
		for _, s := range []string{"", "a", "abcdefgh", "abcdefghi", "A", "a1", "\xe1", "twelve bytes", "thirteen byte", strings.Repeat("a", 256), strings.Repeat("a", 257), strings.Repeat("a", 264)} {
			e := good
			e.Key = s
			checkMay(t, e)
			e.Key, e.Value = good.Key, s
			checkMay(t, e)
		}
	}
}

// P6.1 and P6.2: events in which nothing, or up to four things, are changed.
func TestMayByChance(t *testing.T) {
	chance := rand.New(rand.NewSource(61))
	for range 40000 {
		e := byChance(chance)
		for range chance.Intn(5) {
			e = spoilt(chance, e)
		}
		checkMay(t, e)
	}
}

// P6.2
func TestPutTable(t *testing.T) {
	for _, x := range []struct {
		e api.Event
		b string
	}{
		{api.Event{R: 1, N: 1, Height: 1, Kind: api.Create, Key: "cy"}, "\x01\x01\x01\x00\x00\x00\x00\x01\x02cy"},
		{api.Event{R: 3, N: 7, Ctx: api.Clock{1, 2, 3, 6, 5}, Height: 127, Kind: api.Delete, Key: "a"}, "\x02\x03\x07\x01\x02\x03\x05\x7f\x01a"},
		{api.Event{R: 0, N: 300, Ctx: api.Clock{299, 1, 2, 3, 4}, Height: 301, Kind: api.Set, Key: "a", Label: 1, Value: "\xff"}, "\x03\x00\xac\x02\x01\x02\x03\x04\xad\x02\x01a\x01\x01\xff"},
		{api.Event{R: 2, N: 128, Ctx: api.Clock{1, 2, 127, 3, 128}, Height: 128, Kind: api.Add, Key: "bob", Label: 0, Value: "\x00"}, "\x04\x02\x80\x01\x01\x02\x03\x80\x01\x80\x01\x03bob\x00\x01\x00"},
		{api.Event{R: 4, N: 2, Ctx: api.Clock{0, 0, 0, 128, 1}, Height: 1 << 24, Kind: api.Remove, Key: "abcdefgh", Value: "twelve bytes"}, "\x05\x04\x02\x00\x00\x00\x80\x01\x80\x80\x80\x08\x08abcdefgh\x00\x0ctwelve bytes"},
	} {
		if b, e := Put(x.e); string(b) != x.b || e != api.OK {
			t.Errorf("Put of %#v is %x, %d instead of %x", x.e, b, e, x.b)
		}
		if v, n, e := Take([]byte(x.b)); v != x.e || n != len(x.b) || e != api.OK {
			t.Errorf("Take of %x is %#v, %d, %d instead of %#v", x.b, v, n, e, x.e)
		}
	}
}

// P6.2, by R7
func TestPutIsTheCallers(t *testing.T) {
	for _, e := range samples() {
		kept, _ := Put(e)
		other, _ := Put(e)
		for i := range other {
			other[i] = ^other[i]
		}
		other = append(other, 1, 2, 3)
		if b, _ := Put(e); !bytes.Equal(kept, wantedPut(e)) || !bytes.Equal(b, kept) {
			t.Errorf("what became of an answer is seen in others of Put of %#v: %x, %x", e, kept, b)
		}
	}
}

// P6.3
func TestTakeTable(t *testing.T) {
	for _, x := range []struct {
		b    string
		want api.Errno
	}{
		{"", api.ErrShort},
		// The kind, and whose it is.
		{"\x00", api.ErrForm},
		{"\x06", api.ErrForm},
		{"\x81", api.ErrForm},
		{"\xff\x09", api.ErrForm},
		{"\x01", api.ErrShort},
		{"\x05\x05", api.ErrForm},
		{"\x05\x80", api.ErrForm},
		{"\x05\x04", api.ErrShort},
		// N.
		{"\x01\x01\x00", api.ErrForm},
		{"\x01\x01\x80", api.ErrShort},
		{"\x01\x01\x81\x00", api.ErrForm},
		{"\x01\x01\x80\x80\x40", api.ErrShort}, // 2^20
		{"\x01\x01\x81\x80\x40", api.ErrForm},  // one more
		{"\x01\x01\x80\x80\x80\x80\x80\x80\x80\x80\x80", api.ErrShort},
		{"\x01\x01\x80\x80\x80\x80\x80\x80\x80\x80\x80\x80", api.ErrForm},
		{"\x01\x01\xff\xff\xff\xff\xff\xff\xff\xff\xff\x01", api.ErrForm}, // 2^64 less 1
		{"\x01\x01\x80\x80\x80\x80\x80\x80\x80\x80\x80\x01", api.ErrForm}, // 2^63
		{"\x01\x01\x81\x80\x80\x80\x80\x80\x80\x80\x80\x02", api.ErrForm}, // 1, if it went round
		{"\x01\x01\x81\x80\x80\x80\x10", api.ErrForm},                     // 1, of 32 bits
		// What was seen, of which there are four numbers.
		{"\x01\x01\x01", api.ErrShort},
		{"\x01\x01\x01\x80", api.ErrShort},
		{"\x01\x01\x01\x80\x00", api.ErrForm},
		{"\x01\x01\x01\x81\x80\x40", api.ErrForm},
		{"\x01\x01\x01\xff\xff\xff\xff\xff\xff\xff\xff\xff\x01", api.ErrForm},
		{"\x01\x01\x01\x80\x80\x40\x80\x80\x40\x80\x80\x40\x80\x80\x40", api.ErrShort},
		{"\x01\x01\x01\x00\x00\x00", api.ErrShort},
		{"\x01\x01\x01\x00\x00\x00\x81\x80\x40", api.ErrForm},
		// How high it is.
		{"\x01\x01\x01\x00\x00\x00\x00", api.ErrShort},
		{"\x01\x01\x01\x00\x00\x00\x00\x00", api.ErrForm},
		{"\x01\x01\x01\x00\x00\x00\x00\x80", api.ErrShort},
		{"\x01\x01\x01\x00\x00\x00\x00\x81\x00", api.ErrForm},
		{"\x01\x01\x01\x00\x00\x00\x00\x80\x80\x80\x08", api.ErrShort}, // 2^24
		{"\x01\x01\x01\x00\x00\x00\x00\x81\x80\x80\x08", api.ErrForm},  // one more
		// The key: how long it is, its bytes, and what they are.
		{"\x01\x01\x01\x00\x00\x00\x00\x01", api.ErrShort},
		{"\x01\x01\x01\x00\x00\x00\x00\x01\x00", api.ErrForm},
		{"\x01\x01\x01\x00\x00\x00\x00\x01\x09", api.ErrForm},
		{"\x01\x01\x01\x00\x00\x00\x00\x01\x81a", api.ErrForm},
		{"\x01\x01\x01\x00\x00\x00\x00\x01\x02", api.ErrShort},
		{"\x01\x01\x01\x00\x00\x00\x00\x01\x02c", api.ErrShort},
		{"\x01\x01\x01\x00\x00\x00\x00\x01\x02C", api.ErrShort},
		{"\x01\x01\x01\x00\x00\x00\x00\x01\x02C!", api.ErrForm},
		{"\x01\x01\x01\x00\x00\x00\x00\x01\x02c!", api.ErrForm},
		{"\x01\x01\x01\x00\x00\x00\x00\x01\x02\xc3\xa9", api.ErrForm},
		{"\x01\x01\x01\x00\x00\x00\x00\x01\x02cy", api.OK},
		{"\x01\x01\x01\x00\x00\x00\x00\x01\x02cy\x02\x00", api.OK},
		{"\x02\x01\x01\x00\x00\x00\x00\x01\x02cy", api.OK},
		{"\x01\x01\x01\x00\x00\x00\x00\x01\x08abcdefgh", api.OK},
		// The label.
		{"\x03\x01\x01\x00\x00\x00\x00\x01\x02cy", api.ErrShort},
		{"\x04\x01\x01\x00\x00\x00\x00\x01\x02cy", api.ErrShort},
		{"\x05\x01\x01\x00\x00\x00\x00\x01\x02cy", api.ErrShort},
		{"\x03\x01\x01\x00\x00\x00\x00\x01\x02cy\x02", api.ErrForm},
		{"\x03\x01\x01\x00\x00\x00\x00\x01\x02cy\x80\x01v", api.ErrForm},
		// The value.
		{"\x03\x01\x01\x00\x00\x00\x00\x01\x02cy\x01", api.ErrShort},
		{"\x03\x01\x01\x00\x00\x00\x00\x01\x02cy\x01\x00", api.ErrForm},
		{"\x03\x01\x01\x00\x00\x00\x00\x01\x02cy\x01\x0d", api.ErrForm},
		{"\x03\x01\x01\x00\x00\x00\x00\x01\x02cy\x01\x0dthirteen byte", api.ErrForm},
		{"\x03\x01\x01\x00\x00\x00\x00\x01\x02cy\x01\x0c", api.ErrShort},
		{"\x03\x01\x01\x00\x00\x00\x00\x01\x02cy\x01\x0ctwelve byte", api.ErrShort},
		{"\x03\x01\x01\x00\x00\x00\x00\x01\x02cy\x01\x0ctwelve bytes", api.OK},
		{"\x04\x01\x01\x00\x00\x00\x00\x01\x02cy\x00\x01\xff", api.OK},
		{"\x05\x01\x01\x00\x00\x00\x00\x01\x02cy\x00\x01\x00\x00", api.OK},
		// The first that is wrong is told, whatever is behind it.
		{"\x01\x05\x00", api.ErrForm},
		{"\x09\x05", api.ErrForm},
		{"\x03\x01\x01\x00\x00\x00\x00\x01\x02cy\x02\x01", api.ErrForm},
	} {
		v, used, e := Take([]byte(x.b))
		if e != x.want || (e != api.OK && (used != 0 || v != api.Event{})) {
			t.Errorf("Take of %x is %#v, %d, %d instead of %d", x.b, v, used, e, x.want)
		}
		checkTake(t, []byte(x.b))
	}
	if _, _, e := Take(nil); e != api.ErrShort {
		t.Errorf("Take of nil told %d", e)
	}
}

// P6.3: each beginning of an event, with each byte behind it, and with many.
func TestTakeOfBeginnings(t *testing.T) {
	for _, e := range samples()[:60] {
		b := wantedPut(e)
		for k := range b {
			if v, used, got := Take(b[:k]); v != (api.Event{}) || used != 0 || got != api.ErrShort {
				t.Errorf("Take of the first %d of %x is %#v, %d, %d", k, b, v, used, got)
			}
			for c := range 256 {
				checkTake(t, append(b[:k:k], byte(c)))
			}
			for _, c := range []byte{0, 1, 'a', 127, 128, 129, 255} {
				checkTake(t, append(b[:k:k], bytes.Repeat([]byte{c}, 60)...))
			}
		}
	}
}

// P6.3: each byte of an event in turn is each other one.
func TestTakeWithOneByteChanged(t *testing.T) {
	for _, e := range samples()[:40] {
		b := append(wantedPut(e), "more than enough"...)
		for i := range b {
			was := b[i]
			for c := range 256 {
				b[i] = byte(c)
				checkTake(t, b)
			}
			b[i] = was
		}
	}
}

// P6.3: each number of an event is next to each bound of numbers of 64 bits, in the shortest form and in one that is longer.
func TestTakeOfNumbers(t *testing.T) {
	var numbers []uint64
	for i := range 64 {
		p := uint64(1) << i
		numbers = append(numbers, p-1, p, p+1, -p)
	}
	for which := range 6 {
		for _, n := range numbers {
			b := []byte{4, 2}
			for i := range 6 {
				if i != which {
					b = append(b, 1)
					continue
				}
				b = binary.AppendUvarint(b, n)
			}
			b = append(b, "\x02cy\x00\x01v"...)
			checkTake(t, b)
			for k := range b {
				checkTake(t, b[:k])
				longer := slices.Insert(bytes.Clone(b), k+1, 0)
				longer[k] |= 128
				checkTake(t, longer)
			}
		}
	}
}

// P6.3: all rows of up to three bytes, and rows by chance of such as are near to what may be.
func TestTakeByChance(t *testing.T) {
	for a := range 256 {
		checkTake(t, []byte{byte(a)})
		for b := range 256 {
			checkTake(t, []byte{byte(a), byte(b)})
			if a < 8 {
				for c := range 256 {
					checkTake(t, []byte{byte(a), byte(b), byte(c)})
				}
			}
		}
	}
	chance := rand.New(rand.NewSource(63))
	some := []byte{0, 1, 1, 1, 1, 2, 3, 4, 5, 6, 8, 9, 12, 13, 'a', 'a', 'z', 127, 128, 255}
	for range 100000 {
		b := []byte{byte(1 + chance.Intn(5)), byte(chance.Intn(5)), 1, 1, 1, 1, 1, 1, 1, 'a', 1, 1, 'a'}[:chance.Intn(14)]
		for range chance.Intn(4) {
			b = slices.Insert(b, chance.Intn(len(b)+1), some[chance.Intn(len(some))])
		}
		checkTake(t, b)
	}
}

// P6.3, by R7: an event is not what becomes of the bytes that it was taken from.
func TestTakeKeepsNothing(t *testing.T) {
	for _, e := range samples() {
		b := wantedPut(e)
		v, _, _ := Take(b)
		clear(b)
		if v != e {
			t.Errorf("what became of its bytes is seen in %#v, that was %#v", v, e)
		}
	}
}

// P6.4
func TestBelowTable(t *testing.T) {
	for _, x := range []struct {
		a    api.Event
		ctx  api.Clock
		want bool
	}{
		{api.Event{R: 1, N: 2}, api.Clock{0, 2}, true},
		{api.Event{R: 1, N: 2}, api.Clock{0, 3}, true},
		{api.Event{R: 1, N: 2}, api.Clock{9, 1, 9, 9, 9}, false},
		{api.Event{R: 4, N: 1}, api.Clock{0, 0, 0, 0, 1}, true},
		{api.Event{R: 4, N: 1 << 20}, api.Clock{0, 0, 0, 0, 1 << 20}, true},
		// What was seen where a was made does not matter, nor how high it is, and what it does.
		{api.Event{R: 0, N: 1, Ctx: api.Clock{5, 5, 5, 5, 5}, Height: 99, Kind: 7}, api.Clock{1}, true},
		// None is a replica's event: no replica, and no number.
		{api.Event{R: 0, N: 0}, api.Clock{1, 1, 1, 1, 1}, false},
		{api.Event{R: 0, N: -1}, api.Clock{1, 1, 1, 1, 1}, false},
		{api.Event{R: 5, N: 1}, api.Clock{1, 1, 1, 1, 1}, false},
		{api.Event{R: -1, N: 1}, api.Clock{1, 1, 1, 1, 1}, false},
		{api.Event{R: math.MinInt, N: 1}, api.Clock{1, 1, 1, 1, 1}, false},
		{api.Event{R: math.MaxInt, N: 1}, api.Clock{1, 1, 1, 1, 1}, false},
		{api.Event{R: 0, N: math.MinInt}, api.Clock{math.MaxInt}, false},
		{api.Event{R: 0, N: math.MaxInt}, api.Clock{math.MaxInt}, true},
		{api.Event{R: 0, N: math.MinInt}, api.Clock{math.MinInt}, false},
	} {
		if got := Below(x.a, api.Event{R: 2, N: 1, Ctx: x.ctx}); got != x.want {
			t.Errorf("Below(%#v, what has seen %v) is %v", x.a, x.ctx, got)
		}
	}
}

// P6.4: all events of few numbers, and those next to each bound.
func TestBelowEdges(t *testing.T) {
	for _, n := range edges {
		for _, seen := range edges {
			for r := -2; r < 8; r++ {
				for whose := range 5 {
					b := api.Event{R: 3, N: 4, Ctx: api.Clock{2, 2, 2, 2, 2}, Height: 1}
					b.Ctx[whose] = seen
					a := api.Event{R: r, N: n}
					if got, want := Below(a, b), clock.Has(b.Ctx, r, n); got != want {
						t.Errorf("Below(%#v, %#v) is %v", a, b, got)
					}
					want := r >= 0 && r <= 4 && n >= 1 && (r == whose && n <= seen || r != whose && n <= 2)
					if got := Below(a, b); got != want {
						t.Errorf("Below(%#v, %#v) is %v", a, b, got)
					}
				}
			}
		}
	}
}

// P6.4 and P6.1: no event that may be is below itself; the one ahead of it is.
func TestBelowItself(t *testing.T) {
	for _, e := range samples() {
		if Below(e, e) {
			t.Errorf("%#v is below itself", e)
		}
		if ahead := (api.Event{R: e.R, N: e.N - 1}); Below(ahead, e) != (e.N > 1) {
			t.Errorf("the one ahead of %#v is below it: %v", e, Below(ahead, e))
		}
	}
}

// P6.5
func TestWhatWasPutIsTaken(t *testing.T) {
	chance := rand.New(rand.NewSource(65))
	l := samples()
	for range 20000 {
		l = append(l, byChance(chance))
	}
	behind := []string{"", "\x00", "\x01", "a", "\x80", "\xff\xff\xff\xff\xff\xff\xff\xff\xff\xff\xff", "\x01\x01\x01\x00\x00\x00\x00\x01\x02cy", "more"}
	for _, e := range l {
		b, wrong := Put(e)
		if wrong != api.OK || len(b) > 44 {
			t.Fatalf("Put of %#v is %x, %d", e, b, wrong)
		}
		for _, more := range behind {
			if v, used, wrong := Take(append(b[:len(b):len(b)], more...)); v != e || used != len(b) || wrong != api.OK {
				t.Errorf("of %#v, put as %x ahead of %x, %#v, %d, %d is taken", e, b, more, v, used, wrong)
			}
		}
	}
}

// P6.5: in order of their bytes, one that is the beginning of another one would stand ahead of those that begin with it.
func TestNoEventIsAnothersBeginning(t *testing.T) {
	chance := rand.New(rand.NewSource(66))
	seen := map[string]api.Event{}
	add := func(e api.Event) {
		b, wrong := Put(e)
		if wrong != api.OK {
			return
		}
		if was, ok := seen[string(b)]; ok && was != e {
			t.Errorf("%#v and %#v are put as %x", was, e, b)
		}
		seen[string(b)] = e
	}
	for _, e := range samples() {
		add(e)
	}
	for range 20000 {
		e := byChance(chance)
		add(e)
		e.Key += "a"
		add(e)
		e.Key, e.Value = e.Key[:len(e.Key)-1], e.Value+"a"
		add(e)
	}
	var all []string
	for b := range seen {
		all = append(all, b)
	}
	slices.Sort(all)
	for i := 1; i < len(all); i++ {
		if strings.HasPrefix(all[i], all[i-1]) {
			t.Errorf("%x is the beginning of %x", all[i-1], all[i])
		}
	}
}

// P6.5: the longest one there is.
func TestLongestEvent(t *testing.T) {
	e := api.Event{R: 3, N: 1 << 20, Ctx: api.Clock{1 << 20, 1 << 20, 1 << 20, 1<<20 - 1, 1 << 20}, Height: 1 << 24, Kind: 3, Key: "abcdefgh", Label: 1, Value: "twelve bytes"}
	if b, wrong := Put(e); len(b) != 44 || wrong != api.OK {
		t.Errorf("the longest event has %d bytes: %x, %d", len(b), b, wrong)
	}
}

// P6.1 to P6.4, by R6: what was asked ahead does not matter.
func TestAnswersHangOnArgumentsAlone(t *testing.T) {
	first := samples()
	for _, e := range first {
		Take([]byte("\x03\x01\x01\x00\x00\x00\x00\x01\x02cy\x01\x0d"))
		Take(wantedPut(first[3]))
		Put(api.Event{})
		checkMay(t, e)
		checkTake(t, wantedPut(e))
	}
}

package frame

import (
	"bytes"
	"encoding/binary"
	"hash/crc32"
	"math"
	"math/rand"
	"slices"
	"strings"
	"testing"

	"kith/api"
	"kith/event"
)

// edges are numbers next to each bound, those of bytes and of int among them.
var edges = []int{
	math.MinInt, math.MinInt + 1, -1 << 32, -256, -255, -2, -1, 0, 1, 2, 3, 4, 5, 6, 7, 19, 20, 21, 127, 128, 129, 255, 256, 257, 258, 259, 260, 261, 16383, 16384, 16385,
	1<<20 - 1, 1 << 20, 1<<20 + 1, 1 << 21, 1 << 24, 1 << 28, 1 << 32, 1<<32 + 1, 1<<32 + 4, math.MaxInt - 1, math.MaxInt,
}

// made is the n-th event of replica r.
func made(r, n int) api.Event {
	e := api.Event{R: r, N: n, Height: n, Kind: 1 + n%5, Key: "key"}
	e.Ctx[r] = n - 1
	if e.Kind > api.Delete {
		e.Label, e.Value = n%2, "v\x80\n"
	}
	return e
}

// longest is an event of replica r than which none has more bytes.
func longest(r int) api.Event {
	e := api.Event{R: r, N: 1 << 20, Ctx: api.Clock{1 << 20, 1 << 20, 1 << 20, 1 << 20, 1 << 20}, Height: 1 << 24, Kind: 3, Key: "abcdefgh", Label: 1, Value: "twelve bytes"}
	e.Ctx[r]--
	return e
}

// batch is the first n events of replica r.
func batch(r, n int) []api.Event {
	var l []api.Event
	for i := range n {
		l = append(l, made(r, i+1))
	}
	return l
}

// sized is a frame whose body has n bytes, which are some more than 20: its events have from 10 to 17 each.
func sized(n int) api.Frame {
	f := api.Frame{Kind: api.FrPush}
	for left := n - 3; left > 0; {
		size := min(17, 10+left%10)
		f.Events = append(f.Events, api.Event{N: 1, Height: 1, Kind: api.Create, Key: strings.Repeat("a", size-9)})
		left -= size
	}
	return f
}

// samples are frames that may be: of each Kind, each replica, each count of events, and of bytes of each number.
func samples() []api.Frame {
	var l []api.Frame
	for r := range api.Replicas {
		for n := range api.MaxBatch + 1 {
			l = append(l, api.Frame{Kind: api.FrEvents, R: r, Events: batch((r+n)%5, n)})
			if n > 0 {
				l = append(l, api.Frame{Kind: api.FrPush, R: r, Events: batch(r, n)})
			}
		}
		for _, n := range []int{0, 1, 127, 128, 300, 16383, 16384, 1<<20 - 1, 1 << 20} {
			l = append(l,
				api.Frame{Kind: api.FrPushed, R: r, Upto: n},
				api.Frame{Kind: api.FrFetch, R: r, Clock: api.Clock{n, 0, n / 2, 1, n / 3}},
				api.Frame{Kind: api.FrAck, R: r, Clock: api.Clock{2, n, 1, n / 129, n}},
			)
		}
	}
	for n := 120; n < 136; n++ {
		l = append(l, sized(n))
	}
	return append(l,
		api.Frame{Kind: api.FrEvents, R: 2, Events: []api.Event{longest(4), made(0, 1), made(3, 130), made(0, 1), made(1, 7)}},
		api.Frame{Kind: api.FrEvents, R: 4, Events: slices.Repeat([]api.Event{longest(0)}, 20)},
		api.Frame{Kind: api.FrPush, R: 4, Events: slices.Repeat([]api.Event{longest(4)}, 20)},
	)
}

// few are frames of each Kind that have few bytes.
func few() []api.Frame {
	return []api.Frame{
		{Kind: api.FrPush, R: 1, Events: batch(1, 1)},
		{Kind: api.FrPush, R: 3, Events: batch(3, 3)},
		{Kind: api.FrPushed, R: 2, Upto: 300},
		{Kind: api.FrPushed, R: 0, Upto: 0},
		{Kind: api.FrFetch, R: 4, Clock: api.Clock{0, 1, 128, 0, 5}},
		{Kind: api.FrEvents, R: 3},
		{Kind: api.FrEvents, R: 0, Events: []api.Event{made(2, 300), made(4, 1)}},
		{Kind: api.FrAck, R: 0, Clock: api.Clock{1 << 20, 1 << 20, 1 << 20, 1 << 20, 1 << 20}},
	}
}

// byChance is a frame that may be.
func byChance(chance *rand.Rand) api.Frame {
	count := func() int { return chance.Intn(1<<20+1) >> chance.Intn(21) }
	f := api.Frame{Kind: 1 + chance.Intn(5), R: chance.Intn(5)}
	switch f.Kind {
	case api.FrPush:
		for range 1 + chance.Intn(20) {
			f.Events = append(f.Events, made(f.R, 1+count()%(1<<20)))
		}
	case api.FrEvents:
		for range chance.Intn(21) {
			f.Events = append(f.Events, made(chance.Intn(5), 1+count()%(1<<20)))
		}
	case api.FrPushed:
		f.Upto = count()
	default:
		for r := range f.Clock {
			f.Clock[r] = count()
		}
	}
	return f
}

// spoilt is f with one thing by chance that may be another one. What f has is not changed.
func spoilt(chance *rand.Rand, f api.Frame) api.Frame {
	n := edges[chance.Intn(len(edges))]
	f.Events = slices.Clone(f.Events)
	switch chance.Intn(8) {
	case 0:
		f.Kind = n
	case 1:
		f.Kind = chance.Intn(7)
	case 2:
		f.R = n
	case 3:
		f.Upto = n
	case 4:
		f.Clock[chance.Intn(5)] = n
	case 5:
		f.Events = batch(chance.Intn(5), chance.Intn(24))
	case 6:
		f.Events = append(f.Events, made(chance.Intn(5), 1+chance.Intn(300)))
	case 7:
		if len(f.Events) > 0 {
			e := &f.Events[chance.Intn(len(f.Events))]
			e.Height, e.Kind = n, chance.Intn(7)
		}
	}
	return f
}

// same tells whether two frames are the same; a list that is empty may be nil.
func same(a, b api.Frame) bool {
	return a.Kind == b.Kind && a.R == b.R && a.Upto == b.Upto && a.Clock == b.Clock && slices.Equal(a.Events, b.Events)
}

// wantedMay is P7.1 word by word.
func wantedMay(f api.Frame) bool {
	if f.R < 0 || f.R > 4 || f.Upto < 0 || f.Upto > 1048576 || len(f.Events) > 20 {
		return false
	}
	for _, n := range f.Clock {
		if n < 0 || n > 1048576 {
			return false
		}
	}
	for _, e := range f.Events {
		if event.May(e) != 0 || f.Kind == 1 && e.R != f.R {
			return false
		}
	}
	none, unseen := len(f.Events) == 0, f.Clock == api.Clock{0, 0, 0, 0, 0}
	switch f.Kind {
	case 1:
		return !none && f.Upto == 0 && unseen
	case 2:
		return none && unseen
	case 3, 5:
		return none && f.Upto == 0
	case 4:
		return f.Upto == 0 && unseen
	}
	return false
}

// sealed is b, and behind it its sum.
func sealed(b []byte) []byte {
	return binary.LittleEndian.AppendUint32(bytes.Clone(b), crc32.ChecksumIEEE(b))
}

// framed is what Put makes of a body.
func framed(body string) []byte {
	return sealed(append(binary.AppendUvarint(nil, uint64(len(body))), body...))
}

// wantedPut is P7.2 word by word, of a frame that may be.
func wantedPut(f api.Frame) []byte {
	b := []byte{byte(f.Kind), byte(f.R)}
	switch f.Kind {
	case 1, 4:
		b = append(b, byte(len(f.Events)))
		for _, e := range f.Events {
			put, _ := event.Put(e)
			b = append(b, put...)
		}
	case 2:
		b = binary.AppendUvarint(b, uint64(f.Upto))
	case 3, 5:
		for _, n := range f.Clock {
			b = binary.AppendUvarint(b, uint64(n))
		}
	}
	return framed(string(b))
}

// guessed is the one frame that b, without its sum, may be Put of, if it is that of any.
func guessed(b []byte) api.Frame {
	var f api.Frame
	number := func() int {
		n, used := binary.Uvarint(b)
		b = b[max(used, 0):]
		return int(n)
	}
	octet := func() int {
		if len(b) == 0 {
			return -1
		}
		n := int(b[0])
		b = b[1:]
		return n
	}
	number()
	f.Kind, f.R = octet(), octet()
	switch f.Kind {
	case 1, 4:
		for range octet() {
			e, used, _ := event.Take(b)
			f.Events, b = append(f.Events, e), b[used:]
		}
	case 2:
		f.Upto = number()
	case 3, 5:
		for r := range f.Clock {
			f.Clock[r] = number()
		}
	}
	return f
}

// wantedTake is P7.2 word by word.
func wantedTake(b []byte) (api.Frame, api.Errno) {
	if len(b) > 2048 {
		return api.Frame{}, 5
	}
	n := len(b) - 4
	if n < 0 || crc32.ChecksumIEEE(b[:n]) != binary.LittleEndian.Uint32(b[n:]) {
		return api.Frame{}, 4
	}
	if f := guessed(b[:n]); wantedMay(f) && bytes.Equal(wantedPut(f), b) {
		return f, 0
	}
	return api.Frame{}, 3
}

// checkPut holds Put of f against what P7.1 and P7.2 say, and looks whether f is left as it was.
func checkPut(t *testing.T, f api.Frame) {
	t.Helper()
	was := f
	was.Events = slices.Clone(f.Events)
	b, e := Put(f)
	if !wantedMay(was) {
		if len(b) != 0 || e != api.ErrArg {
			t.Errorf("Put of %#v is %x, %d instead of none, 1", was, b, e)
		}
	} else if !bytes.Equal(b, wantedPut(was)) || e != api.OK {
		t.Errorf("Put of %#v is %x, %d instead of %x", was, b, e, wantedPut(was))
	}
	if !same(f, was) {
		t.Errorf("Put changed %#v to %#v", was, f)
	}
}

// checkTake holds Take of b against what P7.2 says, and looks whether b is left as it was.
func checkTake(t *testing.T, b []byte) {
	t.Helper()
	was := bytes.Clone(b)
	f, e := Take(b)
	if w, want := wantedTake(was); !same(f, w) || e != want {
		t.Errorf("Take of %x is %#v, %d instead of %#v, %d", was, f, e, w, want)
	}
	if !bytes.Equal(b, was) {
		t.Errorf("Take changed %x to %x", was, b)
	}
}

// P7.1 and P7.2
func TestPutTable(t *testing.T) {
	cy := api.Event{R: 1, N: 1, Height: 1, Kind: api.Create, Key: "cy"}
	ann := api.Event{R: 0, N: 300, Ctx: api.Clock{299, 1, 2, 3, 4}, Height: 301, Kind: api.Set, Key: "a", Label: 1, Value: "\xff"}
	cyBytes, annBytes := "\x01\x01\x01\x00\x00\x00\x00\x01\x02cy", "\x03\x00\xac\x02\x01\x02\x03\x04\xad\x02\x01a\x01\x01\xff"
	for _, x := range []struct {
		f api.Frame
		b string
	}{
		{api.Frame{Kind: api.FrPushed, R: 2, Upto: 300}, "\x04\x02\x02\xac\x02"},
		{api.Frame{Kind: api.FrPushed}, "\x03\x02\x00\x00"},
		{api.Frame{Kind: api.FrPushed, R: 4, Upto: 1 << 20}, "\x05\x02\x04\x80\x80\x40"},
		{api.Frame{Kind: api.FrFetch, R: 4, Clock: api.Clock{0, 1, 128, 0, 5}}, "\x08\x03\x04\x00\x01\x80\x01\x00\x05"},
		{api.Frame{Kind: api.FrFetch}, "\x07\x03\x00\x00\x00\x00\x00\x00"},
		{api.Frame{Kind: api.FrAck, R: 1, Clock: api.Clock{1, 2, 3, 4, 5}}, "\x07\x05\x01\x01\x02\x03\x04\x05"},
		{api.Frame{Kind: api.FrAck, R: 3, Clock: api.Clock{1 << 20, 127, 1 << 20, 16384, 1 << 20}}, "\x0f\x05\x03\x80\x80\x40\x7f\x80\x80\x40\x80\x80\x01\x80\x80\x40"},
		{api.Frame{Kind: api.FrEvents, R: 3}, "\x03\x04\x03\x00"},
		{api.Frame{Kind: api.FrEvents, R: 3, Events: []api.Event{}}, "\x03\x04\x03\x00"},
		{api.Frame{Kind: api.FrPush, R: 1, Events: []api.Event{cy}}, "\x0e\x01\x01\x01" + cyBytes},
		{api.Frame{Kind: api.FrEvents, R: 4, Events: []api.Event{cy, ann}}, "\x1d\x04\x04\x02" + cyBytes + annBytes},
		{api.Frame{Kind: api.FrEvents, R: 4, Events: []api.Event{ann, cy, ann}}, "\x2c\x04\x04\x03" + annBytes + cyBytes + annBytes},
		// The same event twice, out of order: no promise asks that.
		{api.Frame{Kind: api.FrPush, R: 1, Events: []api.Event{cy, cy}}, "\x19\x01\x01\x02" + cyBytes + cyBytes},
		// A body of 135 bytes.
		{api.Frame{Kind: api.FrPush, R: 1, Events: slices.Repeat([]api.Event{cy}, 12)}, "\x87\x01\x01\x01\x0c" + strings.Repeat(cyBytes, 12)},
	} {
		want := sealed([]byte(x.b))
		if b, e := Put(x.f); !bytes.Equal(b, want) || e != api.OK {
			t.Errorf("Put of %#v is %x, %d instead of %x", x.f, b, e, want)
		}
		if f, e := Take(want); !same(f, x.f) || e != api.OK {
			t.Errorf("Take of %x is %#v, %d instead of %#v", want, f, e, x.f)
		}
	}
}

// P7.1 and P7.2
func TestPutRefuses(t *testing.T) {
	one := batch(0, 1)
	bad := made(0, 2)
	bad.Height = 0
	for _, f := range []api.Frame{
		// No Kind.
		{},
		{Kind: 6},
		{Kind: -1},
		{Kind: 258, Upto: 1},
		{Kind: math.MinInt},
		{Kind: math.MaxInt},
		// No replica.
		{Kind: api.FrAck, R: 5},
		{Kind: api.FrPushed, R: -1},
		{Kind: api.FrFetch, R: 256},
		{Kind: api.FrEvents, R: 5},
		{Kind: api.FrPush, R: 5, Events: []api.Event{{R: 5, N: 1, Height: 1, Kind: 1, Key: "a"}}},
		// What is named, and may not be.
		{Kind: api.FrPushed, Upto: -1},
		{Kind: api.FrPushed, Upto: 1<<20 + 1},
		{Kind: api.FrPushed, Upto: math.MinInt},
		{Kind: api.FrFetch, Clock: api.Clock{-1}},
		{Kind: api.FrFetch, Clock: api.Clock{0, 0, 0, 0, 1<<20 + 1}},
		{Kind: api.FrAck, Clock: api.Clock{0, 0, math.MaxInt}},
		{Kind: api.FrPush},
		{Kind: api.FrPush, Events: []api.Event{}},
		{Kind: api.FrPush, Events: batch(0, 21)},
		{Kind: api.FrEvents, Events: batch(0, 21)},
		{Kind: api.FrEvents, Events: batch(0, 256)},
		{Kind: api.FrEvents, Events: batch(0, 257)},
		{Kind: api.FrPush, R: 2, Events: one},
		{Kind: api.FrPush, R: 0, Events: []api.Event{made(0, 1), made(0, 2), made(1, 3)}},
		{Kind: api.FrPush, Events: []api.Event{bad}},
		{Kind: api.FrEvents, Events: []api.Event{made(0, 1), bad}},
		{Kind: api.FrEvents, Events: []api.Event{bad, made(0, 1)}},
		{Kind: api.FrEvents, Events: []api.Event{{}}},
		// An event's own error is not told.
		{Kind: api.FrEvents, Events: []api.Event{{N: 1, Height: 1, Kind: 1, Key: "A"}}},
		{Kind: api.FrPush, Events: []api.Event{{N: 1, Height: 1, Kind: 3, Key: "a", Label: 2, Value: "v"}}},
		{Kind: api.FrPush, Events: []api.Event{{N: 1, Height: 1, Kind: 3, Key: "a"}}},
		// What is not named.
		{Kind: api.FrPush, Upto: 1, Events: one},
		{Kind: api.FrPush, Clock: api.Clock{1}, Events: one},
		{Kind: api.FrPushed, Clock: api.Clock{0, 0, 0, 0, 1}},
		{Kind: api.FrPushed, Upto: 1, Events: one},
		{Kind: api.FrFetch, Upto: 1},
		{Kind: api.FrFetch, Events: one},
		{Kind: api.FrEvents, Upto: -1},
		{Kind: api.FrEvents, Clock: api.Clock{0, 1}, Events: one},
		{Kind: api.FrAck, Upto: 1},
		{Kind: api.FrAck, Events: one},
	} {
		if b, e := Put(f); len(b) != 0 || e != api.ErrArg {
			t.Errorf("Put of %#v is %x, %d", f, b, e)
		}
	}
}

// P7.1 and P7.2: each number of a frame next to each bound, and each list of events with each Kind and replica.
func TestPutEdges(t *testing.T) {
	for _, good := range samples() {
		checkPut(t, good)
		for _, n := range edges {
			for _, change := range []func(f *api.Frame){
				func(f *api.Frame) { f.Kind = n },
				func(f *api.Frame) { f.R = n },
				func(f *api.Frame) { f.Upto = n },
				func(f *api.Frame) { f.Clock[0] = n },
				func(f *api.Frame) { f.Clock[1] = n },
				func(f *api.Frame) { f.Clock[2] = n },
				func(f *api.Frame) { f.Clock[3] = n },
				func(f *api.Frame) { f.Clock[4] = n },
			} {
				f := good
				change(&f)
				checkPut(t, f)
			}
		}
	}
	for kind := -1; kind < 8; kind++ {
		for r := -1; r < 7; r++ {
			for n := range 23 {
				for whose := range 5 {
					checkPut(t, api.Frame{Kind: kind, R: r, Events: batch(whose, n)})
				}
			}
		}
	}
}

// P7.1: of as many events as may be each one counts.
func TestPutLooksAtEachEvent(t *testing.T) {
	for n := 1; n <= 20; n++ {
		for i := range n {
			for _, kind := range []int{api.FrPush, api.FrEvents} {
				f := api.Frame{Kind: kind, R: 3, Events: batch(3, n)}
				checkPut(t, f)
				f.Events[i] = made(2, 1)
				checkPut(t, f)
				f.Events[i] = api.Event{R: 3, N: 1, Height: 1<<24 + 1, Kind: 1, Key: "a"}
				checkPut(t, f)
			}
		}
	}
}

// P7.1 and P7.2: frames in which nothing, or up to three things, are changed.
func TestPutByChance(t *testing.T) {
	chance := rand.New(rand.NewSource(71))
	for range 30000 {
		f := byChance(chance)
		for range chance.Intn(4) {
			f = spoilt(chance, f)
		}
		checkPut(t, f)
	}
}

// P7.2
func TestTakeRefuses(t *testing.T) {
	cy, high := "\x01\x01\x01\x00\x00\x00\x00\x01\x02cy", "\x01\x01\x01\x00\x00\x00\x00\x81\x80\x80\x08\x02cy"
	for _, x := range []struct {
		b string
		e api.Errno
	}{
		{"\x04\x02\x02\xac\x02", api.OK},
		{"\x0e\x01\x01\x01" + cy, api.OK},
		{"\x0e\x04\x00\x01" + cy, api.OK},
		// Less than a frame has.
		{"", api.ErrForm},
		{"\x00", api.ErrForm},
		{"\x80", api.ErrForm},
		{"\x01", api.ErrForm},
		{"\x01\x02", api.ErrForm},
		{"\x02\x05\x00", api.ErrForm},
		{"\x02\x04\x00", api.ErrForm},
		{"\x02\x02\x02", api.ErrForm},
		{"\x06\x05\x00\x00\x00\x00\x00", api.ErrForm},
		{"\x0d\x01\x01\x01" + cy[:10], api.ErrForm},
		{"\x0e\x01\x01\x02" + cy, api.ErrForm},
		// More than a frame has.
		{"\x04\x04\x03\x00\x00", api.ErrForm},
		{"\x05\x02\x02\xac\x02\x00", api.ErrForm},
		{"\x08\x05\x00\x00\x00\x00\x00\x00\x00", api.ErrForm},
		{"\x0f\x01\x01\x01" + cy + "\x00", api.ErrForm},
		{"\x19\x01\x01\x01" + cy + cy, api.ErrForm},
		// Another number of bytes than it says, or that number in another form.
		{"\x03\x02\x02\xac\x02", api.ErrForm},
		{"\x05\x02\x02\xac\x02", api.ErrForm},
		{"\x04\x02\x02\x01", api.ErrForm},
		{"\x02\x02\x02\x01", api.ErrForm},
		{"\x00\x02\x02\x01", api.ErrForm},
		{"\x83\x00\x04\x03\x00", api.ErrForm},
		{"\x83\x80\x00\x04\x03\x00", api.ErrForm},
		{"\x83\x80\x80\x80\x80\x80\x80\x80\x80\x02\x04\x03\x00", api.ErrForm},
		{"\xff\xff\xff\xff\xff\xff\xff\xff\xff\x01\x04\x03\x00", api.ErrForm},
		{"\x83\x80\x80\x80\x80\x80\x80\x80\x80\x01\x04\x03\x00", api.ErrForm},
		// No Kind, no replica.
		{"\x03\x00\x00\x00", api.ErrForm},
		{"\x03\x06\x00\x00", api.ErrForm},
		{"\x02\x06\x00", api.ErrForm},
		{"\x03\x82\x00\x00", api.ErrForm},
		{"\x03\x04\x05\x00", api.ErrForm},
		{"\x03\x02\xff\x00", api.ErrForm},
		{"\x07\x05\x05\x00\x00\x00\x00\x00", api.ErrForm},
		// Numbers that may not be, or in another form.
		{"\x05\x02\x02\x81\x80\x40", api.ErrForm},
		{"\x04\x02\x02\x80\x00", api.ErrForm},
		{"\x04\x02\x02\xac\x82", api.ErrForm},
		{"\x0c\x02\x02\xff\xff\xff\xff\xff\xff\xff\xff\xff\x01", api.ErrForm},
		{"\x0c\x02\x02\x80\x80\x80\x80\x80\x80\x80\x80\x80\x01", api.ErrForm},
		{"\x0c\x02\x02\x81\x80\x80\x80\x80\x80\x80\x80\x80\x02", api.ErrForm},
		{"\x09\x03\x02\x00\x00\x81\x80\x40\x00\x00", api.ErrForm},
		{"\x08\x03\x02\x00\x00\x00\x00\x80\x00", api.ErrForm},
		// Events that are none of the replica's, too many, and no events.
		{"\x0e\x01\x00\x01" + cy, api.ErrForm},
		{"\x03\x01\x01\x00", api.ErrForm},
		{"\x03\x04\x01\x15", api.ErrForm},
		{"\xea\x01\x04\x01\x15" + strings.Repeat(cy, 21), api.ErrForm},
		{"\xdf\x01\x04\x01\x14" + strings.Repeat(cy, 20), api.OK},
		{"\x11\x01\x01\x01" + high, api.ErrForm},
		{"\x19\x04\x00\x02" + cy + "\x00" + cy[1:], api.ErrForm},
	} {
		f, e := Take(sealed([]byte(x.b)))
		if e != x.e || e != api.OK && !same(f, api.Frame{}) {
			t.Errorf("Take of %x, sealed, is %#v, %d instead of %d", x.b, f, e, x.e)
		}
		checkTake(t, sealed([]byte(x.b)))
	}
}

// P7.2: more bytes than may be are told ahead of their sum, and that ahead of what they are.
func TestTakeBigAndSum(t *testing.T) {
	good := wantedPut(api.Frame{Kind: api.FrPushed, R: 2, Upto: 300})
	for _, x := range []struct {
		b []byte
		e api.Errno
	}{
		{nil, api.ErrChecksum},
		{[]byte{}, api.ErrChecksum},
		{make([]byte, 1), api.ErrChecksum},
		{make([]byte, 3), api.ErrChecksum},
		// The sum of none is 0.
		{make([]byte, 4), api.ErrForm},
		{make([]byte, 5), api.ErrChecksum},
		{good[:len(good)-1], api.ErrChecksum},
		{good[1:], api.ErrChecksum},
		{append(slices.Clone(good), 0), api.ErrChecksum},
		{append([]byte{0}, good...), api.ErrChecksum},
		{make([]byte, 2047), api.ErrChecksum},
		{make([]byte, 2048), api.ErrChecksum},
		{make([]byte, 2049), api.ErrBig},
		{make([]byte, 1<<20), api.ErrBig},
		{sealed(make([]byte, 2043)), api.ErrForm},
		{sealed(make([]byte, 2044)), api.ErrForm},
		{sealed(make([]byte, 2045)), api.ErrBig},
		{sealed(good), api.ErrForm},
		{append(slices.Clone(good), make([]byte, 2049-len(good))...), api.ErrBig},
		{framed("\x02\x02\xac\x02" + strings.Repeat("\x00", 2038)), api.ErrForm},
		{framed("\x02\x02\xac\x02" + strings.Repeat("\x00", 2039)), api.ErrBig},
		{framed("\x04\x02\xff" + strings.Repeat("\x00", 2039)), api.ErrForm},
	} {
		if f, e := Take(x.b); !same(f, api.Frame{}) || e != x.e {
			t.Errorf("Take of %d bytes, %.20x, is %#v, %d instead of %d", len(x.b), x.b, f, e, x.e)
		}
		checkTake(t, x.b)
	}
}

// P7.1 and P7.2: Take of frames whose numbers stand next to each bound, and of as many events as a byte may say.
func TestTakeEdges(t *testing.T) {
	for _, n := range edges {
		number := string(binary.AppendUvarint(nil, uint64(n)))
		checkTake(t, framed("\x02\x01"+number))
		for r := range 5 {
			for _, kind := range []string{"\x03", "\x05"} {
				checkTake(t, framed(kind+"\x00"+strings.Repeat("\x00", r)+number+strings.Repeat("\x00", 4-r)))
			}
		}
		// How many bytes there are, as it is not.
		checkTake(t, sealed([]byte(number+"\x02\x01\x07")))
		checkTake(t, sealed([]byte(number+"\x04\x01\x00")))
	}
	for n := range 256 {
		for there := range 26 {
			events := ""
			for _, e := range batch(2, there) {
				b, _ := event.Put(e)
				events += string(b)
			}
			checkTake(t, framed("\x01\x02"+string([]byte{byte(n)})+events))
			checkTake(t, framed("\x04\x02"+string([]byte{byte(n)})+events))
		}
		for r := range 256 {
			checkTake(t, framed(string([]byte{byte(n), byte(r), 0})))
			checkTake(t, framed(string([]byte{byte(n), byte(r), 0, 0, 0, 0, 0})))
		}
	}
}

// P7.2 and P7.3: each byte of what is sealed changed to each other one, left out, and put in; and each beginning of it.
func TestTakeChangedBytes(t *testing.T) {
	for _, f := range few() {
		b := wantedPut(f)
		b = b[:len(b)-4]
		for i := range b {
			checkTake(t, sealed(b[:i]))
			checkTake(t, sealed(slices.Delete(bytes.Clone(b), i, i+1)))
			for c := range 256 {
				changed := bytes.Clone(b)
				changed[i] = byte(c)
				checkTake(t, sealed(changed))
				checkTake(t, sealed(slices.Insert(bytes.Clone(b), i, byte(c))))
				// The body changed, and the number ahead of it told anew.
				checkTake(t, framed(string(changed[1:])))
				checkTake(t, framed(string(slices.Insert(bytes.Clone(b[1:]), i, byte(c)))))
			}
		}
	}
}

// P7.2 and P7.3: rows by chance, most of which begin as bodies do.
func TestTakeByChance(t *testing.T) {
	chance := rand.New(rand.NewSource(72))
	for range 40000 {
		body := make([]byte, chance.Intn(24))
		for i := range body {
			body[i] = byte(chance.Intn(256) >> chance.Intn(8))
		}
		if len(body) > 1 && chance.Intn(4) > 0 {
			body[0], body[1] = byte(1+chance.Intn(5)), byte(chance.Intn(5))
		}
		checkTake(t, framed(string(body)))
		checkTake(t, sealed(body))
	}
	for range 20000 {
		b := wantedPut(byChance(chance))
		b = b[:len(b)-4]
		for range 1 + chance.Intn(2) {
			b[chance.Intn(len(b))] ^= 1 << chance.Intn(8)
		}
		checkTake(t, sealed(b))
	}
}

// P7.3
func TestWhatWasPutIsTaken(t *testing.T) {
	chance := rand.New(rand.NewSource(73))
	l := append(samples(), few()...)
	for range 10000 {
		l = append(l, byChance(chance))
	}
	for _, f := range l {
		b, e := Put(f)
		if e != api.OK || len(b) > api.MaxBytes {
			t.Fatalf("Put of %#v is %d bytes, %d", f, len(b), e)
		}
		if v, e := Take(b); !same(v, f) || e != api.OK {
			t.Errorf("of %#v, put as %x, %#v, %d is taken", f, b, v, e)
		}
		checkTake(t, b)
	}
}

// P7.2 and P7.3: with all numbers, and all events, as long as they may be, and where the number of bytes gets one byte more.
func TestSizes(t *testing.T) {
	for _, x := range []struct {
		f    api.Frame
		many int
	}{
		{api.Frame{Kind: api.FrPush, R: 4, Events: slices.Repeat([]api.Event{longest(4)}, 20)}, 2 + 3 + 20*44 + 4},
		{api.Frame{Kind: api.FrEvents, R: 4, Events: slices.Repeat([]api.Event{longest(0)}, 20)}, 2 + 3 + 20*44 + 4},
		{api.Frame{Kind: api.FrAck, R: 4, Clock: api.Clock{1 << 20, 1 << 20, 1 << 20, 1 << 20, 1 << 20}}, 1 + 2 + 15 + 4},
		{api.Frame{Kind: api.FrPushed, R: 4, Upto: 1 << 20}, 1 + 2 + 3 + 4},
		{sized(127), 1 + 127 + 4},
		{sized(128), 2 + 128 + 4},
	} {
		b, e := Put(x.f)
		if len(b) != x.many || e != api.OK {
			t.Errorf("Put of a frame of kind %d is %d bytes instead of %d, %d", x.f.Kind, len(b), x.many, e)
		}
		if f, e := Take(b); !same(f, x.f) || e != api.OK {
			t.Errorf("a frame of kind %d is not taken: %d", x.f.Kind, e)
		}
	}
}

// turned is b with the bits of mask turned, from its bit at on.
func turned(b []byte, at int, mask uint32) []byte {
	b = bytes.Clone(b)
	for i := range 32 {
		if mask>>i&1 == 1 {
			b[(at+i)/8] ^= 1 << ((at + i) % 8)
		}
	}
	return b
}

// checkTurned looks whether Take of b, with the bits of mask turned from its bit at on, tells it, if all of them are there.
func checkTurned(t *testing.T, b []byte, at int, mask uint32) {
	t.Helper()
	for i := range 32 {
		if mask>>i&1 == 1 && at+i >= 8*len(b) {
			return
		}
	}
	if f, e := Take(turned(b, at, mask)); !same(f, api.Frame{}) || e != api.ErrChecksum {
		t.Errorf("of %x with bits %b turned from bit %d on %#v, %d is taken", b, mask, at, f, e)
	}
}

// P7.3: at each place all bits of up to eight in a row, and a selection of those of up to 32, since all are too many.
func TestTurnedBits(t *testing.T) {
	chance := rand.New(rand.NewSource(74))
	for _, f := range few() {
		b := wantedPut(f)
		for at := range 8 * len(b) {
			for mask := uint32(1); mask < 256; mask += 2 {
				checkTurned(t, b, at, mask)
			}
			for range 20 {
				checkTurned(t, b, at, 1|chance.Uint32()>>chance.Intn(24))
			}
			checkTurned(t, b, at, 1<<31|1)
			checkTurned(t, b, at, 1<<32-1)
		}
	}
	for _, f := range samples() {
		b := wantedPut(f)
		for range 40 {
			checkTurned(t, b, chance.Intn(8*len(b)), 1|chance.Uint32())
		}
	}
}

// P7.2, by R6: what was asked ahead does not matter.
func TestAnswersHangOnArgumentsAlone(t *testing.T) {
	other := framed("\x05\x04\x01\x02\x03\x04\x85\x80\x80")
	for _, f := range append(few(), samples()...) {
		Take(other)
		Put(api.Frame{Kind: api.FrPushed, Upto: -1})
		Take(wantedPut(few()[1]))
		checkPut(t, f)
		checkTake(t, wantedPut(f))
	}
}

// P7.2, by R7: what is told is the caller's own, and what was handed in is not kept.
func TestWhatIsToldIsTheCallersOwn(t *testing.T) {
	for _, f := range append(few(), samples()...) {
		b := wantedPut(f)
		first, _ := Take(b)
		second, _ := Take(b)
		clear(b)
		clear(first.Events[:cap(first.Events)])
		if !same(second, f) {
			t.Errorf("%#v was changed to %#v", f, second)
		}
		put, _ := Put(f)
		again, _ := Put(f)
		clear(put[:cap(put)])
		if !bytes.Equal(again, wantedPut(f)) {
			t.Errorf("Put of %#v was changed to %x", f, again)
		}
	}
}

package varint

import (
	"bytes"
	"encoding/binary"
	"math"
	"math/big"
	"slices"
	"testing"

	"kith/api"
)

// edges are numbers on both sides of each power of two, and so of each count of bytes.
func edges() []uint64 {
	l := []uint64{0, 300, 1000000007, 0x0123456789abcdef, math.MaxUint64}
	for i := range 64 {
		p := uint64(1) << i
		l = append(l, p-1, p, p+1, math.MaxUint64-p)
	}
	return l
}

// rows calls f with each row of n bytes out of a few: all the rows are too many, and these stand next to each bound.
func rows(n int, f func(b []byte)) {
	some := []byte{0, 1, 2, 63, 64, 127, 128, 129, 130, 191, 192, 255}
	var fill func(b []byte)
	fill = func(b []byte) {
		if len(b) == n {
			f(b)
			return
		}
		for _, c := range some {
			fill(append(b, c))
		}
	}
	fill(make([]byte, 0, n))
}

// wanted is what Take of b has to tell: P1.2 word by word, with numbers that know no bound.
func wanted(b []byte) (uint64, int, api.Errno) {
	first := b[:min(len(b), 10)]
	end := slices.IndexFunc(first, func(c byte) bool { return c < 128 })
	if end < 0 && len(first) == 10 {
		return 0, 0, api.ErrForm
	}
	if end < 0 {
		return 0, 0, api.ErrShort
	}
	sum := new(big.Int)
	for i := end; i >= 0; i-- {
		sum.Lsh(sum, 7).Or(sum, big.NewInt(int64(first[i]&127)))
	}
	if !sum.IsUint64() || !bytes.Equal(binary.AppendUvarint(nil, sum.Uint64()), first[:end+1]) {
		return 0, 0, api.ErrForm
	}
	return sum.Uint64(), end + 1, api.OK
}

// checkTake holds Take of b against what P1.2 says, and looks whether b is left as it was.
func checkTake(t *testing.T, b []byte) {
	t.Helper()
	was := bytes.Clone(b)
	n, used, e := Take(b)
	if m, k, want := wanted(b); n != m || used != k || e != want {
		t.Errorf("Take of %x told %d, %d, %d instead of %d, %d, %d", b, n, used, e, m, k, want)
	}
	if !bytes.Equal(b, was) {
		t.Errorf("Take changed %x to %x", was, b)
	}
}

// P1.1
func TestPutTable(t *testing.T) {
	for _, c := range []struct {
		n uint64
		b []byte
	}{
		{0, []byte{0}},
		{1, []byte{1}},
		{127, []byte{127}},
		{128, []byte{128, 1}},
		{255, []byte{255, 1}},
		{300, []byte{172, 2}},
		{16383, []byte{255, 127}},
		{16384, []byte{128, 128, 1}},
		{1<<63 - 1, []byte{255, 255, 255, 255, 255, 255, 255, 255, 127}},
		{1 << 63, []byte{128, 128, 128, 128, 128, 128, 128, 128, 128, 1}},
		{math.MaxUint64, []byte{255, 255, 255, 255, 255, 255, 255, 255, 255, 1}},
	} {
		if b := Put(c.n); !bytes.Equal(b, c.b) {
			t.Errorf("Put of %d is %v instead of %v", c.n, b, c.b)
		}
	}
}

// P1.1
func TestPutEdges(t *testing.T) {
	for _, n := range edges() {
		if b, want := Put(n), binary.AppendUvarint(nil, n); !bytes.Equal(b, want) {
			t.Errorf("Put of %d is %x instead of %x", n, b, want)
		}
	}
}

// P1.1, by R7
func TestPutIsTheCallers(t *testing.T) {
	for _, n := range edges() {
		want := binary.AppendUvarint(nil, n)
		kept, spoilt := Put(n), Put(n)
		for i := range spoilt {
			spoilt[i] = ^spoilt[i]
		}
		if b := Put(n); !bytes.Equal(kept, want) || !bytes.Equal(b, want) {
			t.Errorf("what became of an answer is seen in others of Put(%d): %x, %x instead of %x", n, kept, b, want)
		}
	}
}

// P1.2
func TestTakeTable(t *testing.T) {
	nine := "\xff\xff\xff\xff\xff\xff\xff\xff\xff"
	for _, c := range []struct {
		b    string
		n    uint64
		used int
		e    api.Errno
	}{
		{"\x00", 0, 1, api.OK},
		{"\x7f", 127, 1, api.OK},
		{"\x80\x01", 128, 2, api.OK},
		{"\xac\x02", 300, 2, api.OK},
		{"\xac\x02\xac\x02", 300, 2, api.OK},
		{"\x00\x00", 0, 1, api.OK},
		{nine + "\x01", math.MaxUint64, 10, api.OK},
		{nine[:8] + "\x7f", 1<<63 - 1, 9, api.OK},
		// Too short.
		{"", 0, 0, api.ErrShort},
		{"\x80", 0, 0, api.ErrShort},
		{"\xff\xff", 0, 0, api.ErrShort},
		{nine, 0, 0, api.ErrShort},
		// Not the shortest form.
		{"\x80\x00", 0, 0, api.ErrForm},
		{"\x81\x00", 0, 0, api.ErrForm},
		{"\xac\x82\x00", 0, 0, api.ErrForm},
		{"\x80\x00\x01", 0, 0, api.ErrForm},
		{nine[:8] + "\x00", 0, 0, api.ErrForm},
		{nine + "\x00", 0, 0, api.ErrForm},
		// Too great.
		{nine + "\x02", 0, 0, api.ErrForm},
		{nine + "\x03", 0, 0, api.ErrForm},
		{nine + "\x7f", 0, 0, api.ErrForm},
		{"\x80\x80\x80\x80\x80\x80\x80\x80\x80\x02", 0, 0, api.ErrForm},
		// Ten bytes without an end, and more.
		{nine + "\x80", 0, 0, api.ErrForm},
		{nine + "\xff", 0, 0, api.ErrForm},
		{nine + "\x80\x00", 0, 0, api.ErrForm},
		{nine + "\x81\x01", 0, 0, api.ErrForm},
		{nine + "\xff\xff\xff", 0, 0, api.ErrForm},
	} {
		if n, used, e := Take([]byte(c.b)); n != c.n || used != c.used || e != c.e {
			t.Errorf("Take of %x told %d, %d, %d instead of %d, %d, %d", c.b, n, used, e, c.n, c.used, c.e)
		}
	}
	if n, used, e := Take(nil); n != 0 || used != 0 || e != api.ErrShort {
		t.Errorf("Take of nil told %d, %d, %d", n, used, e)
	}
}

// P1.2, P1.3
func TestTakeOfAllShortRows(t *testing.T) {
	checkTake(t, []byte{})
	for i := range 1 << 8 {
		checkTake(t, []byte{byte(i)})
	}
	for i := range 1 << 16 {
		checkTake(t, []byte{byte(i), byte(i >> 8)})
	}
	for n := range 5 {
		rows(n, func(b []byte) { checkTake(t, b) })
	}
}

// P1.2, P1.3
func TestTakeOfLongRows(t *testing.T) {
	for lead := range 12 {
		for _, c := range []byte{128, 129, 200, 255} {
			long := bytes.Repeat([]byte{c}, lead)
			rows(3, func(b []byte) { checkTake(t, append(bytes.Clone(long), b...)) })
		}
	}
}

// P1.3
func TestWhatWasPutIsTaken(t *testing.T) {
	behind := []string{"", "\x00", "\x01", "\x7f", "\x80", "\xff", "\x00\x00", "\x80\x00", "\xff\xff\xff\xff\xff\xff\xff\xff\xff\xff\xff", "what stands behind"}
	for _, n := range edges() {
		for _, s := range behind {
			b := append(Put(n), s...)
			if m, used, e := Take(b); m != n || used != len(Put(n)) || e != api.OK {
				t.Errorf("Take of Put(%d) and %x told %d, %d, %d", n, s, m, used, e)
			}
		}
	}
}

// P1.3
func TestNothingElseIsTaken(t *testing.T) {
	for lead := range 11 {
		long := bytes.Repeat([]byte{255}, lead)
		rows(3, func(b []byte) {
			b = append(bytes.Clone(long), b...)
			if n, used, e := Take(b); e == api.OK && !bytes.Equal(Put(n), b[:used]) {
				t.Errorf("Take of %x told %d, %d, that is %x", b, n, used, Put(n))
			}
		})
	}
}

// P1.3: of what was put no beginning is taken, but all of it.
func TestNoBeginningIsTaken(t *testing.T) {
	for _, n := range edges() {
		b := Put(n)
		for k := range b {
			if m, used, e := Take(b[:k]); m != 0 || used != 0 || e != api.ErrShort {
				t.Errorf("Take of the first %d bytes of Put(%d) told %d, %d, %d", k, n, m, used, e)
			}
		}
	}
}

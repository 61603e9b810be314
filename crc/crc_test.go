package crc

import (
	"bytes"
	"encoding/binary"
	"hash/crc32"
	"math/bits"
	"math/rand"
	"strings"
	"testing"
)

// samples are rows of bytes of many lengths: none, zeros and ones, some in order, and some by chance.
func samples() [][]byte {
	r := rand.New(rand.NewSource(2))
	l := [][]byte{nil, {}, {0}, {1}, {128}, {255}, []byte("a"), []byte("123456789"), []byte(strings.Repeat("kith", 500))}
	for _, n := range []int{1, 2, 3, 4, 5, 7, 8, 9, 31, 32, 33, 255, 256, 2048} {
		some := make([]byte, n)
		r.Read(some)
		l = append(l, make([]byte, n), bytes.Repeat([]byte{255}, n), some)
	}
	return l
}

// wantedStep is P2.1 in other words: a division of polynomials, the highest power in the lowest bit.
func wantedStep(r uint32, c byte) uint32 {
	rest := uint64(bits.Reverse32(r^uint32(c))) << 8
	for i := 39; i >= 32; i-- {
		if rest>>i&1 == 1 {
			rest ^= 0x104C11DB7 << (i - 32)
		}
	}
	return bits.Reverse32(uint32(rest))
}

// wantedSeal is what Seal of b has to tell, by the sum of the library.
func wantedSeal(b []byte) []byte {
	return binary.LittleEndian.AppendUint32(bytes.Clone(b), crc32.ChecksumIEEE(b))
}

// checkShut holds that b is not opened.
func checkShut(t *testing.T, what string, b []byte) {
	t.Helper()
	if got, ok := Open(b); len(got) != 0 || ok {
		t.Errorf("%s: Open of %x told %x, %v", what, b, got, ok)
	}
}

// turn turns those of 64 bits in a row that pattern has, from bit number at of b on.
func turn(b []byte, at int, pattern uint64) {
	for ; pattern != 0; pattern &= pattern - 1 {
		i := at + bits.TrailingZeros64(pattern)
		b[i/8] ^= 1 << (i % 8)
	}
}

// checkTurned holds that sealed bytes are not opened while a pattern of their bits is turned.
func checkTurned(t *testing.T, sealed []byte, at int, pattern uint64) {
	t.Helper()
	if at+bits.Len64(pattern) > 8*len(sealed) {
		return
	}
	turn(sealed, at, pattern)
	if got, ok := Open(sealed); len(got) != 0 || ok {
		t.Errorf("with %b turned from bit %d on, Open of %x told %x, %v", pattern, at, sealed, got, ok)
	}
	turn(sealed, at, pattern)
}

// P2.1
func TestStepTable(t *testing.T) {
	for _, c := range []struct {
		r    uint32
		c    byte
		want uint32
	}{
		{0, 0, 0},
		{0, 1, 0x77073096},
		{0, 128, 0xEDB88320},
		{0, 255, 0x2D02EF8D},
		{1, 1, 0},
		{0xFF, 0xFF, 0},
		{0x80, 0, 0xEDB88320},
		{0x100, 0, 1},
		{0x80000000, 0, 0x00800000},
		{0x12345678, 0x78, 0x123456},
		{0xFFFFFFFF, 0, 0x2DFD1072},
		{0xFFFFFFFF, 0xFF, 0x00FFFFFF},
	} {
		if got := Step(c.r, c.c); got != c.want {
			t.Errorf("Step of %X and %X is %X instead of %X", c.r, c.c, got, c.want)
		}
	}
}

// P2.1
func TestStepOfEachByte(t *testing.T) {
	registers := []uint32{0, 1, 0x7F, 0x80, 0xFF, 0x100, 0x12345678, 0x7FFFFFFF, 0x80000000, 0xEDB88320, 0xFFFFFF00, 0xFFFFFFFF}
	for i := range 32 {
		registers = append(registers, 1<<i)
	}
	for _, r := range registers {
		for c := range 256 {
			if got, want := Step(r, byte(c)), wantedStep(r, byte(c)); got != want {
				t.Errorf("Step of %X and %X is %X instead of %X", r, c, got, want)
			}
		}
	}
}

// P2.1
func TestSumTable(t *testing.T) {
	for s, want := range map[string]uint32{
		"":                 0,
		"a":                0xE8B7BE43,
		"123456789":        0xCBF43926,
		"\x00":             0xD202EF8D,
		"\x00\x00\x00\x00": 0x2144DF1C,
		"\xff\xff\xff\xff": 0xFFFFFFFF,
	} {
		if got := Sum([]byte(s)); got != want {
			t.Errorf("Sum of %x is %X instead of %X", s, got, want)
		}
	}
}

// P2.1: a sum is that of the steps, and that of the library.
func TestSumOfSamples(t *testing.T) {
	for _, b := range samples() {
		r := uint32(0xFFFFFFFF)
		for _, c := range b {
			r = wantedStep(r, c)
		}
		if got := Sum(b); got != ^r || got != crc32.ChecksumIEEE(b) {
			t.Errorf("Sum of %x is %X instead of %X", b, got, ^r)
		}
	}
}

// P2.2
func TestSealAndOpen(t *testing.T) {
	for _, b := range samples() {
		was := bytes.Clone(b)
		sealed := Seal(b)
		if !bytes.Equal(sealed, wantedSeal(b)) || !bytes.Equal(b, was) {
			t.Errorf("Seal of %x is %x, and left %x", was, sealed, b)
		}
		kept := bytes.Clone(sealed)
		if got, ok := Open(sealed); !bytes.Equal(got, was) || !ok || !bytes.Equal(sealed, kept) {
			t.Errorf("Open of %x told %x, %v, and left %x", kept, got, ok, sealed)
		}
	}
}

// P2.2: the lowest byte of the sum is the first one.
func TestSealTable(t *testing.T) {
	for s, want := range map[string]string{
		"":          "\x00\x00\x00\x00",
		"a":         "a\x43\xbe\xb7\xe8",
		"123456789": "123456789\x26\x39\xf4\xcb",
	} {
		if got := Seal([]byte(s)); string(got) != want {
			t.Errorf("Seal of %x is %x instead of %x", s, got, want)
		}
		if got, ok := Open([]byte(want)); string(got) != s || !ok {
			t.Errorf("Open of %x told %x, %v", want, got, ok)
		}
	}
}

// P2.2: fewer bytes than a sum has are no seal of anything.
func TestOpenOfTooFew(t *testing.T) {
	checkShut(t, "nil", nil)
	for n := range 4 {
		checkShut(t, "too few", make([]byte, n))
		checkShut(t, "too few", bytes.Repeat([]byte{255}, n))
	}
	if got, ok := Open(make([]byte, 4)); len(got) != 0 || !ok {
		t.Errorf("Open of the seal of nothing told %x, %v", got, ok)
	}
}

// P2.2: a sum that is put otherwise, or is that of other bytes, does not open.
func TestOpenOfWhatIsNoSeal(t *testing.T) {
	b := []byte("123456789")
	sum := crc32.ChecksumIEEE(b)
	sealed := wantedSeal(b)
	checkShut(t, "the highest byte first", binary.BigEndian.AppendUint32(bytes.Clone(b), sum))
	checkShut(t, "the sum not turned", binary.LittleEndian.AppendUint32(bytes.Clone(b), ^sum))
	checkShut(t, "the sum ahead", append(binary.LittleEndian.AppendUint32(nil, sum), b...))
	checkShut(t, "one more", binary.LittleEndian.AppendUint32(bytes.Clone(b), sum+1))
	checkShut(t, "a byte behind", append(bytes.Clone(sealed), 0))
	checkShut(t, "a byte ahead", append([]byte{0}, sealed...))
	checkShut(t, "no sum", b)
	checkShut(t, "two changed about", append([]byte("213456789"), sealed[9:]...))
	for k := 1; k < len(sealed); k++ {
		checkShut(t, "cut at the end", sealed[:k])
		checkShut(t, "cut ahead", sealed[k:])
	}
}

// P2.2: of all rows of four and five bytes out of a few, just the seals open.
func TestJustSealsOpen(t *testing.T) {
	some := []byte{0, 1, 0x1C, 0x21, 0x44, 0x8D, 0xD2, 0xDF, 0xEF, 0x02, 0xFF}
	var fill func(b []byte)
	fill = func(b []byte) {
		if len(b) >= 4 {
			body := b[:len(b)-4]
			seal := bytes.Equal(b, wantedSeal(body))
			if got, ok := Open(b); ok != seal || seal && !bytes.Equal(got, body) || !seal && len(got) != 0 {
				t.Errorf("Open of %x told %x, %v", b, got, ok)
			}
		}
		if len(b) == 5 {
			return
		}
		for _, c := range some {
			fill(append(b, c))
		}
	}
	fill(make([]byte, 0, 5))
}

// P2.2, by R7: nothing is shared, nor written behind what was handed in.
func TestAnswersAreTheCallers(t *testing.T) {
	whole := []byte("123456789 and what stands behind")
	was := bytes.Clone(whole)
	sealed := Seal(whole[:9])
	if !bytes.Equal(whole, was) {
		t.Errorf("Seal wrote behind what it got: %q", whole)
	}
	for i := range sealed[:9] {
		sealed[i] = 0
	}
	if !bytes.Equal(whole, was) {
		t.Errorf("what became of the seal is seen in what was sealed: %q", whole)
	}
	sealed = append(wantedSeal(was), "behind"...)
	kept := bytes.Clone(sealed)
	opened, _ := Open(sealed[:len(was)+4])
	_ = append(opened, "written behind"...)
	opened[0] = 'x'
	if !bytes.Equal(sealed, kept) {
		t.Errorf("what became of what was opened is seen in the seal: %q", sealed)
	}
	opened, _ = Open(sealed[:len(was)+4])
	clear(sealed)
	if !bytes.Equal(opened, was) {
		t.Errorf("what became of the seal is seen in what was opened: %q", opened)
	}
}

// P2.3: every pattern of up to ten bits, wherever it stands.
func TestNothingTurnedIsOpenedShort(t *testing.T) {
	for _, s := range []string{"", "a", "123456789", strings.Repeat("\x00", 13), strings.Repeat("\xff", 13)} {
		sealed := Seal([]byte(s))
		for at := range 8 * len(sealed) {
			for pattern := uint64(1); pattern < 1<<10; pattern += 2 {
				checkTurned(t, sealed, at, pattern)
			}
		}
	}
}

// P2.3: each two bits within 32, all bits in a row, and patterns by chance that are up to 32 bits long.
func TestNothingTurnedIsOpenedLong(t *testing.T) {
	r := rand.New(rand.NewSource(3))
	for _, b := range samples() {
		if len(b) > 33 {
			continue
		}
		sealed := Seal(b)
		for at := range 8 * len(sealed) {
			for n := 1; n < 32; n++ {
				checkTurned(t, sealed, at, 1|1<<n)
				checkTurned(t, sealed, at, 1<<(n+1)-1)
				checkTurned(t, sealed, at, 1|1<<n|uint64(r.Uint32())&(1<<n-1))
			}
		}
	}
}

// P2.3, by P2.2: of 33 bits in a row there is one pattern that turns a seal into another one; 32 is the bound.
func TestWhatIsBehindTheBound(t *testing.T) {
	sealed := Seal([]byte("123456789"))
	const pattern = 1 | uint64(0xEDB88320)<<1
	for at := range 8*len(sealed) - 32 {
		turn(sealed, at, pattern)
		body := sealed[:len(sealed)-4]
		if got, ok := Open(sealed); !ok || !bytes.Equal(got, body) || !bytes.Equal(wantedSeal(body), sealed) {
			t.Errorf("with the pattern turned from bit %d on, Open of %x told %x, %v", at, sealed, got, ok)
		}
		turn(sealed, at, pattern)
	}
}

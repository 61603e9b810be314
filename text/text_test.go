package text

import (
	"math"
	"math/rand"
	"strings"
	"testing"
	"unicode/utf8"

	"kith/api"
)

// edges are numbers next to each bound, of labels, of kinds and of int.
var edges = []int{math.MinInt, math.MinInt + 1, -1 << 32, -2, -1, 0, 1, 2, 3, 4, 5, 6, 7, 255, 256, 257, 1 << 32, 1<<32 + 1, 1<<32 + 5, math.MaxInt - 1, math.MaxInt}

// wantedKey is P5.1 word by word, byte by byte.
func wantedKey(s string) api.Errno {
	b := []byte(s)
	ok := 1 <= len(b) && len(b) <= 8
	for i := range b {
		ok = ok && strings.IndexByte("abcdefghijklmnopqrstuvwxyz", b[i]) >= 0
	}
	if ok {
		return 0
	}
	return 10
}

func wantedLabel(n int) api.Errno {
	switch n {
	case 0, 1:
		return 0
	}
	return 11
}

func wantedValue(s string) api.Errno {
	switch len([]byte(s)) {
	case 1, 2, 3, 4, 5, 6, 7, 8, 9, 10, 11, 12:
		return 0
	}
	return 12
}

// wantedEdit is P5.2 word by word: all that is wrong, in order, of which the first one is told.
func wantedEdit(e api.Edit) api.Errno {
	var all []api.Errno
	if e.Kind != 1 && e.Kind != 2 && e.Kind != 3 && e.Kind != 4 && e.Kind != 5 {
		all = append(all, 1)
	}
	all = append(all, wantedKey(e.Key))
	if e.Kind == 1 || e.Kind == 2 {
		if e.Label != 0 {
			all = append(all, 11)
		}
		if len(e.Value) > 0 {
			all = append(all, 12)
		}
	} else {
		all = append(all, wantedLabel(e.Label), wantedValue(e.Value))
	}
	for _, x := range all {
		if x != 0 {
			return x
		}
	}
	return 0
}

// P5.1
func TestKeyTable(t *testing.T) {
	for _, x := range []struct {
		s    string
		want api.Errno
	}{
		// The chapter's examples.
		{"ann", api.OK},
		{"Ann", api.ErrKey},
		// From 1 to MaxKey bytes.
		{"", api.ErrKey},
		{"a", api.OK},
		{"z", api.OK},
		{"abcdefg", api.OK},
		{"abcdefgh", api.OK},
		{"zzzzzzzz", api.OK},
		{"abcdefghi", api.ErrKey},
		{strings.Repeat("a", 16), api.ErrKey},
		{strings.Repeat("a", 256), api.ErrKey},
		{strings.Repeat("a", 257), api.ErrKey},
		{strings.Repeat("a", 1<<20), api.ErrKey},
		// What stands next to a and to z, and what is no letter.
		{"`", api.ErrKey},
		{"{", api.ErrKey},
		{"A", api.ErrKey},
		{"Z", api.ErrKey},
		{"0", api.ErrKey},
		{" ", api.ErrKey},
		{"\x00", api.ErrKey},
		{"a b", api.ErrKey},
		{" a", api.ErrKey},
		{"a\n", api.ErrKey},
		{"a\x00", api.ErrKey},
		{"abcdefg1", api.ErrKey},
		{"abcdefgH", api.ErrKey},
		{"ann-bob", api.ErrKey},
		// Letters of more than one byte, and bytes that are a part of none.
		{"\xc3\xa9", api.ErrKey},
		{"a\xc3\xa9", api.ErrKey},
		{"\xc3\xa9a", api.ErrKey},
		{"\u0430\u0431", api.ErrKey},
		{"\uff41", api.ErrKey},
		{"\U0001d41a", api.ErrKey},
		{"\xe1", api.ErrKey},
		{"\x80", api.ErrKey},
		{"a\xff", api.ErrKey},
		{"\xefabc", api.ErrKey},
		{"\xf0\x9f\x98", api.ErrKey},
		{"\ufffd", api.ErrKey},
		// An a written in more bytes than it needs.
		{"\xc1\xa1", api.ErrKey},
		{"\xe0\x81\xa1", api.ErrKey},
		{"\xf0\x80\x81\xa1", api.ErrKey},
		// Runes of which the lowest byte is a letter.
		{"\u0161", api.ErrKey},
		{"\u4e61", api.ErrKey},
		{"\U00010061", api.ErrKey},
	} {
		if got := Key(x.s); got != x.want {
			t.Errorf("Key of %.40q is %d instead of %d", x.s, got, x.want)
		}
	}
}

// P5.1 and P5.3: each byte alone, and each two.
func TestKeyOfAllShortTexts(t *testing.T) {
	for a := range 256 {
		one := string([]byte{byte(a)})
		if got, want := Key(one), wantedKey(one); got != want {
			t.Errorf("Key of %q is %d instead of %d", one, got, want)
		}
		for b := range 256 {
			two := string([]byte{byte(a), byte(b)})
			if got, want := Key(two), wantedKey(two); got != want {
				t.Errorf("Key of %q is %d instead of %d", two, got, want)
			}
		}
	}
}

// P5.1: each length with each letter.
func TestKeyOfAllLengths(t *testing.T) {
	for n := range 40 {
		for c := 'a'; c <= 'z'; c++ {
			s := strings.Repeat(string(c), n)
			want := api.ErrKey
			if n >= 1 && n <= api.MaxKey {
				want = api.OK
			}
			if got := Key(s); got != want {
				t.Errorf("Key of %q is %d instead of %d", s, got, want)
			}
		}
	}
}

// P5.3: each byte at each place of a key of each length.
func TestKeyWithOneByte(t *testing.T) {
	for n := 1; n <= api.MaxKey; n++ {
		for at := range n {
			for c := range 256 {
				b := []byte("mnopqrst")[:n]
				b[at] = byte(c)
				want := api.ErrKey
				if c >= 'a' && c <= 'z' {
					want = api.OK
				}
				if got := Key(string(b)); got != want {
					t.Errorf("Key of %q is %d instead of %d", b, got, want)
				}
			}
		}
	}
}

// P5.3: what was a key is none with one byte more that may not be, at each place.
func TestKeyWithOneByteMore(t *testing.T) {
	for _, key := range []string{"a", "ann", "bob", "zoe", "abcdefg"} {
		for at := range len(key) + 1 {
			for c := range 256 {
				if c >= 'a' && c <= 'z' {
					continue
				}
				s := key[:at] + string([]byte{byte(c)}) + key[at:]
				if got := Key(s); got != api.ErrKey {
					t.Errorf("Key of %q is %d", s, got)
				}
			}
		}
	}
}

// P5.1 and P5.3: no rune from 128 on is a letter of a key, alone or behind one.
func TestKeyOfAllRunes(t *testing.T) {
	for c := rune(128); c <= utf8.MaxRune; c++ {
		if Key(string(c)) != api.ErrKey || Key("a"+string(c)) != api.ErrKey {
			t.Errorf("%U may be in a key", c)
		}
	}
}

// P5.1
func TestLabel(t *testing.T) {
	for n := -1000; n <= 1000; n++ {
		if got, want := Label(n), wantedLabel(n); got != want {
			t.Errorf("Label of %d is %d instead of %d", n, got, want)
		}
	}
	for _, n := range edges {
		if got, want := Label(n), wantedLabel(n); got != want {
			t.Errorf("Label of %d is %d instead of %d", n, got, want)
		}
	}
	if Label(api.Name) != api.OK || Label(api.Note) != api.OK || Label(api.Phone) != api.OK || Label(api.Mail) != api.OK {
		t.Error("a label that there is may not be")
	}
}

// P5.1
func TestValueTable(t *testing.T) {
	for _, x := range []struct {
		s    string
		want api.Errno
	}{
		{"", api.ErrValue},
		{"x", api.OK},
		{"twelve bytes", api.OK},
		{"thirteen byte", api.ErrValue},
		{"Ann", api.OK},
		{"+49 30 12345", api.OK},
		{"ann@home.org", api.OK},
		// Whatever the bytes are.
		{"\x00", api.OK},
		{"\x00\x00\x00\x00\x00\x00\x00\x00\x00\x00\x00\x00", api.OK},
		{"\xff\xfe", api.OK},
		{" ", api.OK},
		{"\n", api.OK},
		// Bytes count, not letters.
		{"\u00e9\u00e9\u00e9\u00e9\u00e9\u00e9", api.OK},
		{"\u00e9\u00e9\u00e9\u00e9\u00e9\u00e9\u00e9", api.ErrValue},
		{"\U0001f600\U0001f600\U0001f600", api.OK},
		{"\U0001f600\U0001f600\U0001f600\U0001f600", api.ErrValue},
		{"\U0001f600\U0001f600\U0001f600!", api.ErrValue},
		{"\xff\xff\xff\xff\xff\xff\xff\xff\xff\xff\xff\xff", api.OK},
		{"\xff\xff\xff\xff\xff\xff\xff\xff\xff\xff\xff\xff\xff", api.ErrValue},
		{strings.Repeat("x", 256), api.ErrValue},
		{strings.Repeat("x", 257), api.ErrValue},
		{strings.Repeat("x", 1<<20), api.ErrValue},
	} {
		if got := Value(x.s); got != x.want {
			t.Errorf("Value of %.40q is %d instead of %d", x.s, got, x.want)
		}
	}
}

// P5.1: each length with each byte.
func TestValueOfAllLengths(t *testing.T) {
	for n := range 40 {
		for c := range 256 {
			s := strings.Repeat(string([]byte{byte(c)}), n)
			if got, want := Value(s), wantedValue(s); got != want {
				t.Errorf("Value of %q is %d instead of %d", s, got, want)
			}
		}
	}
}

// P5.1: one byte, whichever, at each place of a value.
func TestValueWithOneByte(t *testing.T) {
	for n := 1; n <= api.MaxValue; n++ {
		for at := range n {
			for c := range 256 {
				b := []byte("twelve bytes")[:n]
				b[at] = byte(c)
				if got := Value(string(b)); got != api.OK {
					t.Errorf("Value of %q is %d", b, got)
				}
			}
		}
	}
}

// P5.2
func TestEditTable(t *testing.T) {
	for _, x := range []struct {
		e    api.Edit
		want api.Errno
	}{
		{api.Edit{Kind: api.Create, Key: "ann"}, api.OK},
		{api.Edit{Kind: api.Delete, Key: "ann"}, api.OK},
		{api.Edit{Kind: api.Set, Key: "ann", Label: api.Name, Value: "Ann"}, api.OK},
		{api.Edit{Kind: api.Set, Key: "ann", Label: api.Note, Value: "\x00\xff"}, api.OK},
		{api.Edit{Kind: api.Add, Key: "abcdefgh", Label: api.Phone, Value: "+49 30 12345"}, api.OK},
		{api.Edit{Kind: api.Add, Key: "a", Label: api.Mail, Value: "x"}, api.OK},
		{api.Edit{Kind: api.Remove, Key: "ann", Label: api.Phone, Value: "1"}, api.OK},
		{api.Edit{Kind: api.Remove, Key: "ann", Label: api.Mail, Value: "1"}, api.OK},
		// The kind goes first.
		{api.Edit{}, api.ErrArg},
		{api.Edit{Kind: 0, Key: "ann"}, api.ErrArg},
		{api.Edit{Kind: -1, Key: "ann", Value: "x"}, api.ErrArg},
		{api.Edit{Kind: 6, Key: "ann"}, api.ErrArg},
		{api.Edit{Kind: 6, Key: "ann", Label: 1, Value: "x"}, api.ErrArg},
		{api.Edit{Kind: 6, Key: "!", Label: 2}, api.ErrArg},
		{api.Edit{Kind: math.MinInt, Key: "ann"}, api.ErrArg},
		{api.Edit{Kind: math.MaxInt, Key: "ann"}, api.ErrArg},
		{api.Edit{Kind: 1<<32 + 1, Key: "ann"}, api.ErrArg},
		// Then the key.
		{api.Edit{Kind: api.Create}, api.ErrKey},
		{api.Edit{Kind: api.Create, Key: "Ann", Label: 1, Value: "x"}, api.ErrKey},
		{api.Edit{Kind: api.Delete, Key: "ann!", Label: 7, Value: "thirteen byte"}, api.ErrKey},
		{api.Edit{Kind: api.Set, Label: 2}, api.ErrKey},
		{api.Edit{Kind: api.Add, Key: "abcdefghi", Value: ""}, api.ErrKey},
		{api.Edit{Kind: api.Remove, Key: "\xc3\xa9", Label: -1, Value: "x"}, api.ErrKey},
		// Then the label: a Create or Delete has none.
		{api.Edit{Kind: api.Create, Key: "ann", Label: 1}, api.ErrLabel},
		{api.Edit{Kind: api.Create, Key: "ann", Label: -1, Value: "x"}, api.ErrLabel},
		{api.Edit{Kind: api.Delete, Key: "ann", Label: 1, Value: "x"}, api.ErrLabel},
		{api.Edit{Kind: api.Delete, Key: "ann", Label: 2}, api.ErrLabel},
		{api.Edit{Kind: api.Set, Key: "ann", Label: 2, Value: "x"}, api.ErrLabel},
		{api.Edit{Kind: api.Add, Key: "ann", Label: -1, Value: ""}, api.ErrLabel},
		{api.Edit{Kind: api.Remove, Key: "ann", Label: 1 << 32, Value: "thirteen byte"}, api.ErrLabel},
		// Then the value: a Create or Delete has none.
		{api.Edit{Kind: api.Create, Key: "ann", Value: "x"}, api.ErrValue},
		{api.Edit{Kind: api.Create, Key: "ann", Value: "\x00"}, api.ErrValue},
		{api.Edit{Kind: api.Create, Key: "ann", Value: "thirteen byte"}, api.ErrValue},
		{api.Edit{Kind: api.Delete, Key: "ann", Value: "x"}, api.ErrValue},
		{api.Edit{Kind: api.Set, Key: "ann"}, api.ErrValue},
		{api.Edit{Kind: api.Set, Key: "ann", Label: 1, Value: "thirteen byte"}, api.ErrValue},
		{api.Edit{Kind: api.Add, Key: "ann", Label: 1}, api.ErrValue},
		{api.Edit{Kind: api.Remove, Key: "ann"}, api.ErrValue},
	} {
		if got := Edit(x.e); got != x.want {
			t.Errorf("Edit of %#v is %d instead of %d", x.e, got, x.want)
		}
	}
}

// P5.2: each kind with each key, label and value of some, in order the first one that is wrong.
func TestEditOfAllSorts(t *testing.T) {
	keys := []string{"", "a", "ann", "abcdefgh", "abcdefghi", "Ann", "a1", "\x00", "\xc3\xa9", "z{"}
	values := []string{"", "x", "\x00", "twelve bytes", "thirteen byte", "\xff"}
	for _, kind := range edges {
		for _, key := range keys {
			for _, label := range edges {
				for _, value := range values {
					e := api.Edit{Kind: kind, Key: key, Label: label, Value: value}
					if got, want := Edit(e), wantedEdit(e); got != want {
						t.Errorf("Edit of %#v is %d instead of %d", e, got, want)
					}
				}
			}
		}
	}
}

// P5.3: an edit of each kind whose key has one byte that may not be, at each place, may not be.
func TestEditWithOneByteOfItsKey(t *testing.T) {
	for kind := api.Create; kind <= api.Remove; kind++ {
		e := api.Edit{Kind: kind}
		if kind >= api.Set {
			e.Value = "x"
		}
		for at := range api.MaxKey {
			for c := range 256 {
				b := []byte("abcdefgh")
				b[at] = byte(c)
				e.Key = string(b)
				if got, want := Edit(e), wantedKey(e.Key); got != want {
					t.Errorf("Edit of %#v is %d instead of %d", e, got, want)
				}
			}
		}
	}
}

// P5.1 and P5.2: texts by chance, of letters for the most part.
func TestTextsByChance(t *testing.T) {
	r := rand.New(rand.NewSource(5))
	chance := func(most int) string {
		b := make([]byte, r.Intn(most))
		for i := range b {
			b[i] = byte('a' + r.Intn(26))
			if r.Intn(20) == 0 {
				b[i] = byte(r.Intn(256))
			}
		}
		return string(b)
	}
	for range 100000 {
		key, value := chance(11), chance(15)
		if got, want := Key(key), wantedKey(key); got != want {
			t.Errorf("Key of %q is %d instead of %d", key, got, want)
		}
		if got, want := Value(value), wantedValue(value); got != want {
			t.Errorf("Value of %q is %d instead of %d", value, got, want)
		}
		e := api.Edit{Kind: r.Intn(8) - 1, Key: key, Label: r.Intn(4) - 1, Value: value}
		if r.Intn(2) == 0 {
			e.Value = ""
		}
		if got, want := Edit(e), wantedEdit(e); got != want {
			t.Errorf("Edit of %#v is %d instead of %d", e, got, want)
		}
	}
}

// P5.1 and P5.2, by R6: the same answer each time, whatever was asked in between.
func TestTextsHangOnThemselvesAlone(t *testing.T) {
	for range 3 {
		if Key("ann") != api.OK || Key("Ann") != api.ErrKey || Key("") != api.ErrKey {
			t.Error("a key is told otherwise than the first time")
		}
		if Value("x") != api.OK || Value("") != api.ErrValue || Label(1) != api.OK || Label(2) != api.ErrLabel {
			t.Error("a value or a label is told otherwise than the first time")
		}
		if Edit(api.Edit{}) != api.ErrArg || Edit(api.Edit{Kind: api.Create, Key: "ann"}) != api.OK {
			t.Error("an edit is told otherwise than the first time")
		}
	}
}

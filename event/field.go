package event

import (
	"kith/api"
	"kith/text"
	"kith/varint"
)

// A field is read from the beginning of b to where it belongs: how many bytes it has, or what is wrong with it.
// Which place that is, and what may stand there, a field keeps: so one that is behind others may hang on what they have read.
type field func(b []byte) (used int, wrong api.Errno)

// row reads fields that stand one behind the other, up to the first that is wrong.
func row(fields ...field) field {
	return func(b []byte) (int, api.Errno) {
		used := 0
		for _, read := range fields {
			n, wrong := read(b[used:])
			if wrong != api.OK {
				return 0, wrong
			}
			used += n
		}
		return used, api.OK
	}
}

// octet is a number that is one byte, from low to high.
func octet(to *int, low, high byte) field {
	return func(b []byte) (int, api.Errno) {
		if len(b) == 0 {
			return 0, api.ErrShort
		}
		if b[0] < low || b[0] > high {
			return 0, api.ErrForm
		}
		*to = int(b[0])
		return 1, api.OK
	}
}

// number is one that varint.Put put, from low to high.
func number(to *int, low, high uint64) field {
	return func(b []byte) (int, api.Errno) {
		n, used, wrong := varint.Take(b)
		if wrong != api.OK {
			return 0, wrong
		}
		if n < low || n > high {
			return 0, api.ErrForm
		}
		*to = int(n)
		return used, api.OK
	}
}

// words is how long a text is, up to most, and the text, that may tells whether it may be.
func words(to *string, most byte, may func(string) api.Errno) field {
	return func(b []byte) (int, api.Errno) {
		var long int
		used, wrong := octet(&long, 1, most)(b)
		if wrong != api.OK {
			return 0, wrong
		}
		if len(b) < used+long {
			return 0, api.ErrShort
		}
		s := string(b[used : used+long])
		if may(s) != api.OK {
			return 0, api.ErrForm
		}
		*to = s
		return used + long, api.OK
	}
}

// seen is what e had seen, where e has R and N by now: of R itself N tells it.
func seen(e *api.Event) field {
	return func(b []byte) (int, api.Errno) {
		var others []field
		for r := range e.Ctx {
			if r != e.R {
				others = append(others, number(&e.Ctx[r], 0, api.MaxEvents))
			}
		}
		e.Ctx[e.R] = e.N - 1
		return row(others...)(b)
	}
}

// written is e's label and value, if it has them by its kind, that e has by now.
func written(e *api.Event) field {
	return func(b []byte) (int, api.Errno) {
		if !isWrite(e.Kind) {
			return 0, api.OK
		}
		return row(
			octet(&e.Label, 0, api.Labels-1),
			words(&e.Value, api.MaxValue, text.Value),
		)(b)
	}
}

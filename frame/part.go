package frame

import (
	"kith/api"
	"kith/event"
	"kith/varint"
)

// A part is what a Kind names: whether it may be, and nothing else is there; it as bytes; and from b, if that is all of it.
type part struct {
	may  func(f api.Frame) bool
	put  func(f api.Frame) []byte
	take func(f *api.Frame, b []byte) bool
}

// parts is the part of each Kind that there is.
func parts() map[int]part {
	seen := part{mayClock, putClock, takeClock}
	return map[int]part{
		api.FrPush:   {mayPush, putEvents, takeEvents},
		api.FrPushed: {mayUpto, putUpto, takeUpto},
		api.FrFetch:  seen,
		api.FrEvents: {mayEvents, putEvents, takeEvents},
		api.FrAck:    seen,
	}
}

// mayPush tells it of events that their own replica sends: without any it would say nothing.
func mayPush(f api.Frame) bool {
	for _, e := range f.Events {
		if e.R != f.R {
			return false
		}
	}
	return len(f.Events) > 0 && mayEvents(f)
}

func mayEvents(f api.Frame) bool {
	if f.Upto != 0 || f.Clock != (api.Clock{}) || len(f.Events) > api.MaxBatch {
		return false
	}
	for _, e := range f.Events {
		if event.May(e) != api.OK {
			return false
		}
	}
	return true
}

func mayUpto(f api.Frame) bool {
	return isCount(f.Upto) && f.Clock == (api.Clock{}) && len(f.Events) == 0
}

func mayClock(f api.Frame) bool {
	for _, n := range f.Clock {
		if !isCount(n) {
			return false
		}
	}
	return f.Upto == 0 && len(f.Events) == 0
}

// isCount tells whether a replica may have so many events.
func isCount(n int) bool {
	return 0 <= n && n <= api.MaxEvents
}

func putEvents(f api.Frame) []byte {
	b := []byte{byte(len(f.Events))}
	for _, e := range f.Events {
		// It may be, so nothing is wrong with it.
		put, _ := event.Put(e)
		b = append(b, put...)
	}
	return b
}

func putUpto(f api.Frame) []byte {
	return varint.Put(uint64(f.Upto))
}

func putClock(f api.Frame) []byte {
	var b []byte
	for _, n := range f.Clock {
		b = append(b, varint.Put(uint64(n))...)
	}
	return b
}

func takeEvents(f *api.Frame, b []byte) bool {
	if len(b) == 0 {
		return false
	}
	count, b := b[0], b[1:]
	for range count {
		e, used, wrong := event.Take(b)
		if wrong != api.OK {
			return false
		}
		f.Events, b = append(f.Events, e), b[used:]
	}
	return len(b) == 0
}

func takeUpto(f *api.Frame, b []byte) bool {
	return takeNumbers(b, &f.Upto)
}

func takeClock(f *api.Frame, b []byte) bool {
	var places []*int
	for r := range f.Clock {
		places = append(places, &f.Clock[r])
	}
	return takeNumbers(b, places...)
}

// takeNumbers takes as many numbers from b as there are places for them, if that is all of b.
func takeNumbers(b []byte, to ...*int) bool {
	for _, place := range to {
		n, used, wrong := varint.Take(b)
		if wrong != api.OK {
			return false
		}
		// One that is too great for an int is below zero in it, and may not be either.
		*place, b = int(n), b[used:]
	}
	return len(b) == 0
}

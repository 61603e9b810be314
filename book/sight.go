package book

import (
	"kith/api"
	"kith/event"
)

// A thing is what events of one kind are about: of a Create or a Delete just the key counts, of a Set the label too, of the others the value too.
type thing struct {
	kind  int
	key   string
	label int
	value string
}

// thingOf is that of e, as an event of this kind has it.
func thingOf(kind int, e api.Event) thing {
	t := thing{kind: kind, key: e.Key}
	switch kind {
	case api.Set:
		t.label = e.Label
	case api.Add, api.Remove:
		t.label, t.value = e.Label, e.Value
	}
	return t
}

// A sight is what all events of a thing together had seen, and of each key the first Create of each replica that lives.
// Whether one event is below another hangs on one number of a clock alone: so the greatest ones stand for all that are above, and the first ones for all that are below.
type sight struct {
	seen  map[thing]api.Clock
	first map[string]api.Clock
}

func sightOf(l []api.Event) sight {
	s := sight{map[thing]api.Clock{}, map[string]api.Clock{}}
	for _, e := range l {
		s.see(e)
	}
	for _, e := range l {
		// One of no replica, or of no number, is below none.
		if e.Kind == api.Create && s.lives(e) && e.R >= 0 && e.R < api.Replicas && e.N >= 1 {
			s.begin(e)
		}
	}
	return s
}

func (s sight) see(e api.Event) {
	t := thingOf(e.Kind, e)
	seen := s.seen[t]
	for r, n := range e.Ctx {
		seen[r] = max(seen[r], n)
	}
	s.seen[t] = seen
}

// begin takes a Create that lives, and has a mark.
func (s sight) begin(e api.Event) {
	first := s.first[e.Key]
	if first[e.R] == 0 || e.N < first[e.R] {
		first[e.R] = e.N
		s.first[e.Key] = first
	}
}

// under tells whether one of this kind, of the thing of e, is above e.
func (s sight) under(kind int, e api.Event) bool {
	return event.Below(e, api.Event{Ctx: s.seen[thingOf(kind, e)]})
}

func (s sight) lives(e api.Event) bool {
	return !s.under(api.Delete, e)
}

// stands tells whether a Create of its key that lives is below e.
func (s sight) stands(e api.Event) bool {
	for r, n := range s.first[e.Key] {
		// Where there is none, n is 0, which is below none.
		if event.Below(api.Event{R: r, N: n}, e) {
			return true
		}
	}
	return false
}

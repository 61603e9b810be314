package book

import "kith/api"

// A rule is what holds of the events of one kind: which of them count, of which of those nothing is to be kept, as a later one stands for them, and what they write.
type rule struct {
	counts  func(e api.Event) bool
	covered func(e api.Event) bool
	write   func(d *draft, e api.Event)
}

// rulesOf is the rule of each kind of which something may be left in a book of l.
func rulesOf(l []api.Event) map[int]rule {
	s := sightOf(l)
	return map[int]rule{
		api.Create: {
			counts:  s.lives,
			covered: func(api.Event) bool { return false },
			write:   func(*draft, api.Event) {},
		},
		api.Set: {
			counts:  s.stands,
			covered: func(e api.Event) bool { return s.under(api.Set, e) },
			write:   (*draft).set,
		},
		api.Add: {
			counts:  func(e api.Event) bool { return s.stands(e) && !s.under(api.Remove, e) },
			covered: func(e api.Event) bool { return s.under(api.Add, e) },
			write:   (*draft).add,
		},
	}
}

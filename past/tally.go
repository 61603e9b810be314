package past

import "kith/api"

// A tally is which marks are there, and of each replica the one up to which all are: what is behind a gap waits till it is filled.
type tally struct {
	there map[api.Mark]bool
	whole api.Clock
}

func (t *tally) add(m api.Mark) {
	// No clock has anything of what is no replica.
	if m.R < 0 || m.R >= api.Replicas {
		return
	}
	t.there[m] = true
	for t.there[api.Mark{R: m.R, N: t.whole[m.R] + 1}] {
		t.whole[m.R]++
	}
}

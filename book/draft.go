package book

import (
	"slices"

	"kith/api"
	"kith/stamp"
)

// A draft is a contact of which not all is read yet: all that is written into its fields, and when, and all that is added to its sets.
type draft struct {
	fields [api.Labels][]string
	stamps [api.Labels][]api.Stamp
	sets   [api.Labels][]string
}

func (d *draft) set(e api.Event) {
	if isLabel(e.Label) {
		d.fields[e.Label] = append(d.fields[e.Label], e.Value)
		d.stamps[e.Label] = append(d.stamps[e.Label], api.Stamp{Height: e.Height, R: e.R})
	}
}

func (d *draft) add(e api.Event) {
	if isLabel(e.Label) {
		d.sets[e.Label] = append(d.sets[e.Label], e.Value)
	}
}

func (d *draft) contact(key string) api.Contact {
	c := api.Contact{Key: key}
	for label, stamps := range d.stamps {
		if last := stamp.Last(stamps); last >= 0 {
			c.Has[label], c.Field[label] = true, d.fields[label][last]
		}
	}
	for label, set := range d.sets {
		slices.Sort(set)
		c.Sets[label] = slices.Compact(set)
	}
	return c
}

func isLabel(label int) bool {
	return label >= 0 && label < api.Labels
}

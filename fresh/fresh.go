// Package fresh: copies in new memory, which share none with what they were made of nor
// with each other, strings included. Rule R4 of DOC.md asks for them wherever a result
// repeats an argument or what an object keeps.
package fresh

import (
	"strings"

	"linchpin/api"
)

// Shelf returns a copy of s.
func Shelf(s api.Shelf) api.Shelf {
	return api.Shelf{Name: strings.Clone(s.Name), Entries: list(s.Entries, entry)}
}

// Record returns a copy of r.
func Record(r api.Record) api.Record {
	return api.Record{
		Name:     strings.Clone(r.Name),
		V:        Version(r.V),
		Needs:    list(r.Needs, need),
		Bars:     list(r.Bars, bar),
		Features: list(r.Features, feature),
	}
}

// Version returns a copy of v.
func Version(v api.Version) api.Version {
	v.Pre, v.Build = strings.Clone(v.Pre), strings.Clone(v.Build)
	return v
}

// Pin returns a copy of p.
func Pin(p api.Pin) api.Pin {
	return api.Pin{Name: strings.Clone(p.Name), Shelf: strings.Clone(p.Shelf)}
}

func entry(e api.Entry) api.Entry {
	e.Rec = Record(e.Rec)
	return e
}

func need(n api.Need) api.Need {
	return api.Need{Any: list(n.Any, wish), When: strings.Clone(n.When), Option: strings.Clone(n.Option)}
}

func wish(w api.Wish) api.Wish {
	return api.Wish{
		Name:     strings.Clone(w.Name),
		Range:    strings.Clone(w.Range),
		Features: list(w.Features, strings.Clone),
		Bare:     w.Bare,
	}
}

func bar(b api.Bar) api.Bar {
	return api.Bar{Name: strings.Clone(b.Name), Range: strings.Clone(b.Range), When: strings.Clone(b.When)}
}

func feature(f api.Feature) api.Feature {
	return api.Feature{Name: strings.Clone(f.Name), Of: list(f.Of, strings.Clone)}
}

// list returns the copies of the elements of l.
func list[T any](l []T, copied func(T) T) []T {
	var c []T
	for _, x := range l {
		c = append(c, copied(x))
	}
	return c
}

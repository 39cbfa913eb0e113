// Package valid: rules that the document states for several layers.
package valid

import (
	"linchpin/api"
	"linchpin/ident"
	"linchpin/scope"
)

// Range reports whether s is the string that Print of package scope returns for a
// range.
func Range(s string) bool {
	r, err := scope.Parse(s)
	return err == api.OK && scope.Print(r) == s
}

// Pins returns the number of pins at the beginning of l that are right: each Name and
// each Shelf is a name, and the Names are in strictly ascending order. If it is less
// than the length of l, it is the index of the first pin that is wrong.
func Pins(l []api.Pin) int {
	last := "" // which is less than every name
	for i, p := range l {
		if !ident.Name(p.Name) || !ident.Name(p.Shelf) || p.Name <= last {
			return i
		}
		last = p.Name
	}
	return len(l)
}

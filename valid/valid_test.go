package valid

import (
	"slices"
	"strings"
	"testing"

	"linchpin/api"
)

// P12.1, P16.1: the strings that ranges have.
func TestRange(t *testing.T) {
	wide := "=1000.1000.1000-abcdefgh, =1000.1000.1000-abcdefgh, =1000.1000.1000-abcdefgh, =1000.1000.1000-ab"
	for _, s := range []string{"*", "1.*", "=1", "!=1.2", "<1.2.3-rc.1", "^1", "~0.3", ">=1, <2", "=1 || =2", ">=1, <2 || =3.1.4", "*, *", wide} {
		if !Range(s) {
			t.Errorf("Range(%q) is false", s)
		}
	}
	// What Parse refuses, and what Print returns differently.
	for _, s := range []string{"", " ", "x", "==1", "1.2.3.4", "=01", ",", "* ||", wide + "c", strings.Repeat("* || ", 6) + "*", "\xff", "*\n",
		"1", "1.2.3-rc.1", ">=1,<2", ">=1,  <2", "=1||=2", " *", "* ", strings.Repeat("1, ", 5) + "1", strings.Repeat("x", 1<<20)} {
		if Range(s) {
			t.Errorf("Range(%.100q) is true", s)
		}
	}
}

// P15.1, P16.1: how many pins are right, with a wrong one at every place.
func TestPins(t *testing.T) {
	good := []api.Pin{{Name: "a", Shelf: "main"}, {Name: "a-1", Shelf: "z"}, {Name: "a1", Shelf: "a"}, {Name: "aa", Shelf: "main"}, {Name: "b", Shelf: "main"},
		{Name: "c", Shelf: "c"}, {Name: "d", Shelf: "main"}, {Name: "e", Shelf: "main"}, {Name: "f", Shelf: "main"}, {Name: "zzzzzzzzzzzzzzzz", Shelf: "zzzzzzzzzzzzzzzz"}}
	for i := range len(good) + 1 {
		if n := Pins(good[:i]); n != i {
			t.Errorf("of %d pins, %d are right", i, n)
		}
	}
	want := func(l []api.Pin, at int) {
		t.Helper()
		if n := Pins(l); n != at {
			t.Errorf("Pins(%.400q): %d, want %d", l, n, at)
		}
	}
	for i := range good {
		for _, s := range []string{"", "A", "1", "-", "a-", "a--b", "b_c", "b c", "zz\n", "\xff", "zzzzzzzzzzzzzzzzz", strings.Repeat("z", 1<<20)} {
			l := slices.Clone(good)
			l[i].Name = s
			want(l, i)
			l[i] = api.Pin{Name: good[i].Name, Shelf: s}
			want(l, i)
			want(l[i:], 0)
		}
		for k := range i {
			l := slices.Clone(good)
			l[i].Name = l[k].Name
			want(l, i)
			l = slices.Clone(good)
			l[i], l[k] = l[k], l[i]
			want(l, k+1)
		}
	}
	want(nil, 0)
	want(make([]api.Pin, 9), 0)
}

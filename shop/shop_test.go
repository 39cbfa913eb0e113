package shop

import (
	"fmt"
	"math/rand"
	"regexp"
	"slices"
	"strings"
	"testing"
	"time"

	"linchpin/api"
	"linchpin/record"
	"linchpin/shelf"
	"linchpin/version"
)

var nameForm = regexp.MustCompile(`^[a-z][a-z0-9]*(-[a-z0-9]+)*$`)

// validOf is a second May.
func validOf(l []api.Shelf) bool {
	names := map[string]bool{}
	for _, s := range l {
		if !shelf.May(s) {
			return false
		}
		names[s.Name] = true
	}
	return len(l) <= 4 && len(names) == len(l)
}

// validPins reports whether pins is valid.
func validPins(pins []api.Pin) bool {
	var names []string
	for _, p := range pins {
		for _, s := range []string{p.Name, p.Shelf} {
			if len(s) > 16 || !nameForm.MatchString(s) {
				return false
			}
		}
		names = append(names, p.Name)
	}
	return slices.IsSorted(names) && len(slices.Compact(names)) == len(pins)
}

// fromOf is a second From.
func fromOf(l []api.Shelf, pins []api.Pin, name string) (int, api.Errno) {
	if !validOf(l) {
		return 0, api.ErrArg
	}
	if !validPins(pins) {
		return 0, api.ErrPin
	}
	shelves, homes := map[string]int{}, map[string]int{}
	for i := len(l) - 1; i >= 0; i-- { // what stands earlier replaces what stands later
		shelves[l[i].Name] = i
		for _, e := range l[i].Entries {
			homes[e.Rec.Name] = i
		}
	}
	for _, p := range pins {
		if at, ok := shelves[p.Shelf]; ok {
			homes[p.Name] = at
		} else {
			homes[p.Name] = -1
		}
	}
	switch at, ok := homes[name]; {
	case !ok:
		return 0, api.ErrNone
	case at < 0:
		return 0, api.ErrShelf
	default:
		return at, api.OK
	}
}

// entriesOf is a second List of a valid shelf.
func entriesOf(s api.Shelf, name string) []int {
	var l []int
	for i, e := range s.Entries {
		if e.Rec.Name == name {
			at := 0
			for at < len(l) && version.Compare(s.Entries[l[at]].Rec.V, e.Rec.V) < 0 {
				at++
			}
			l = slices.Insert(l, at, i)
		}
	}
	return l
}

// some is a list of shelves as a text, shortened.
func some(l []api.Shelf) string {
	var b strings.Builder
	for _, s := range l {
		fmt.Fprintf(&b, "%.40q:", s.Name)
		for _, e := range s.Entries {
			fmt.Fprintf(&b, " %.20s %s", e.Rec.Name, version.Print(e.Rec.V))
		}
		b.WriteString("; ")
	}
	return fmt.Sprintf("%.300s", b.String())
}

// checkIs holds From and List of a name against what they are to return.
func checkIs(t *testing.T, l []api.Shelf, pins []api.Pin, name string, at int, list []int, err api.Errno) {
	t.Helper()
	if got, is := From(l, pins, name); got != at || is != err {
		t.Errorf("From(%s, %.200q, %.40q): %d, %v; want %d, %v", some(l), fmt.Sprint(pins), name, got, is, at, err)
	}
	if got, entries, is := List(l, pins, name); got != at || !slices.Equal(entries, list) || is != err {
		t.Errorf("List(%s, %.200q, %.40q): %d, %v, %v; want %d, %v, %v", some(l), fmt.Sprint(pins), name, got, entries, is, at, list, err)
	}
}

// check holds From and List of some names against second ones, and May too.
func check(t *testing.T, l []api.Shelf, pins []api.Pin, names ...string) {
	t.Helper()
	if want := validOf(l); May(l) != want {
		t.Errorf("May(%s): want %t", some(l), want)
	}
	for _, name := range names {
		at, err := fromOf(l, pins, name)
		var list []int
		if err == api.OK {
			list = entriesOf(l[at], name)
		}
		checkIs(t, l, pins, name, at, list, err)
	}
}

// rec is the record of a text, of which the word package is left out.
func rec(text string) api.Record {
	r, err, at := record.Parse("package " + text + "\n")
	if err != api.OK {
		panic(fmt.Sprintf("%q: %v, %d", text, err, at))
	}
	return r
}

// of is the shelf of this name with these records; those whose text begins with a hyphen
// are withdrawn.
func of(name string, texts ...string) api.Shelf {
	s := api.Shelf{Name: name}
	for _, text := range texts {
		bare, yanked := strings.CutPrefix(text, "-")
		r := rec(bare)
		s = put(s, r)
		s.Entries[len(s.Entries)-1].Yanked = yanked
	}
	return s
}

// put is s with one more record.
func put(s api.Shelf, r api.Record) api.Shelf {
	more, err := shelf.Put(s, r)
	if err != api.OK {
		panic(fmt.Sprintf("%s %s on %s: %v", r.Name, version.Print(r.V), s.Name, err))
	}
	return more
}

// base is a valid list of shelves.
func base() []api.Shelf {
	return []api.Shelf{
		of("main", "b 1.0.0", "-c 1.0.0"),
		of("side", "a 2.0.0", "b 3.0.0", "-a 1.0.0-rc.10", "c 2.0.0", "a 1.0.0-rc.9+b", "a 0.10.0", "a 10.0.0"),
		of("empty"),
		of("last", "d 1.0.0", "a 1.0.0", "c 0.1.0", "e-1 0.0.0"),
	}
}

// names are all that stand in base, as packages or shelves, and some others.
var names = []string{"a", "b", "c", "d", "e-1", "main", "side", "empty", "last", "e", "x", "", "A", "a ", "a\n", "-a", "\xff", "aa"}

// P15.1: the numbers and Names of shelves for which May holds.
func TestMay(t *testing.T) {
	for n := range 8 {
		var bare, rich []api.Shelf
		for i := range n {
			bare = append(bare, api.Shelf{Name: string(rune('a' + i))})
			rich = append(rich, of(string(rune('z'-i)), "a 1.0.0", "-b 1.0.0"))
		}
		for _, l := range [][]api.Shelf{bare, rich} {
			if May(l) != (n <= 4) {
				t.Errorf("May of %d shelves", n)
			}
			check(t, l, nil, "a", "b", "z")
		}
	}
	if !May(nil) || !May([]api.Shelf{}) || !May(base()) || May(make([]api.Shelf, 1)) || May(make([]api.Shelf, 5)) {
		t.Error("May of no shelves, of some or of zero values")
	}
}

// P15.1: the Names of the shelves are different, at any two places, whatever they hold.
func TestNames(t *testing.T) {
	for i := range base() {
		for k := range base() {
			for _, name := range []string{"x", "main-2", "mai", "sidf", "e-1"} {
				l := base()
				l[i].Name = name
				if !May(l) {
					t.Errorf("May with the Name %q at %d", name, i)
				}
				l[k].Name = name
				if May(l) != (i == k) {
					t.Errorf("May with the Name %q at %d and %d", name, i, k)
				}
				check(t, l, nil, names...)
			}
			l := base()
			l[k] = l[i]
			if May(l) != (i == k) {
				t.Errorf("May with one shelf at %d and %d", i, k)
			}
			l[k].Name = "other" // the same entries on two shelves
			if !May(l) {
				t.Errorf("May with the entries of one shelf at %d and %d", i, k)
			}
			check(t, l, nil, names...)
		}
	}
}

// P15.1: all shelves are valid; otherwise ErrArg, whatever pins and name are.
func TestShelves(t *testing.T) {
	harms := []func(s *api.Shelf){
		func(s *api.Shelf) { s.Name = "" },
		func(s *api.Shelf) { s.Name = "Main" },
		func(s *api.Shelf) { s.Name = "a--b" },
		func(s *api.Shelf) { s.Name = strings.Repeat("a", 17) },
		func(s *api.Shelf) { s.Entries[0].Sum++ },
		func(s *api.Shelf) { s.Entries[len(s.Entries)-1].Sum ^= 1 << 63 },
		func(s *api.Shelf) { s.Entries[0].Rec.Name = "B" },
		func(s *api.Shelf) { s.Entries[0].Rec.V.Build = "b" },
		func(s *api.Shelf) { s.Entries = append(s.Entries, s.Entries[0]) },
		func(s *api.Shelf) { s.Entries = make([]api.Entry, 1) },
		func(s *api.Shelf) { s.Entries = make([]api.Entry, 65) },
	}
	for i := range base() {
		for at, harm := range harms {
			l := base()
			if len(l[i].Entries) == 0 {
				l[i] = of("empty", "free 1.0.0")
			}
			harm(&l[i])
			if May(l) {
				t.Errorf("May holds with harm %d at %d", at, i)
			}
			for _, pins := range [][]api.Pin{nil, {{Name: "a", Shelf: "main"}}, {{Name: "a", Shelf: "gone"}}, {{}}} {
				for _, name := range names {
					checkIs(t, l, pins, name, 0, nil, api.ErrArg)
				}
			}
			check(t, l[:i], nil, names...)
			check(t, l[i+1:], nil, names...)
		}
	}
}

// P15.1: From and List by a table.
func TestFrom(t *testing.T) {
	pins := []api.Pin{{Name: "a", Shelf: "last"}, {Name: "b", Shelf: "side"}, {Name: "c", Shelf: "empty"}, {Name: "d", Shelf: "gone"}, {Name: "x", Shelf: "main"}}
	for _, c := range []struct {
		pins []api.Pin
		name string
		at   int
		list []int
		err  api.Errno
	}{
		{nil, "a", 1, []int{5, 4, 2, 0, 6}, api.OK},
		{nil, "b", 0, []int{0}, api.OK},
		{nil, "c", 0, []int{1}, api.OK},
		{nil, "d", 3, []int{0}, api.OK},
		{nil, "e-1", 3, []int{3}, api.OK},
		{nil, "e", 0, nil, api.ErrNone},
		{nil, "main", 0, nil, api.ErrNone},
		{nil, "", 0, nil, api.ErrNone},
		{nil, "A", 0, nil, api.ErrNone},
		{[]api.Pin{}, "a", 1, []int{5, 4, 2, 0, 6}, api.OK},
		{pins, "a", 3, []int{1}, api.OK},
		{pins, "b", 1, []int{1}, api.OK},
		{pins, "c", 2, nil, api.OK},
		{pins, "d", 0, nil, api.ErrShelf},
		{pins, "x", 0, nil, api.OK},
		{pins, "e-1", 3, []int{3}, api.OK},
		{pins, "e", 0, nil, api.ErrNone},
		{pins, "last", 0, nil, api.ErrNone},
		{pins[1:], "a", 1, []int{5, 4, 2, 0, 6}, api.OK},
		{pins[3:4], "d", 0, nil, api.ErrShelf},
		{pins[3:4], "c", 0, []int{1}, api.OK},
	} {
		checkIs(t, base(), c.pins, c.name, c.at, c.list, c.err)
	}
	for n := range base() {
		check(t, base()[:n], pins, names...)
		check(t, base()[n:], nil, names...)
	}
	for _, name := range names {
		checkIs(t, nil, nil, name, 0, nil, api.ErrNone)
		checkIs(t, []api.Shelf{}, []api.Pin{{Name: "z", Shelf: "main"}}, name, 0, nil, api.ErrNone)
	}
	checkIs(t, nil, pins, "a", 0, nil, api.ErrShelf)
}

// P15.1: every shelf to which a pin may lead, and every place of that pin.
func TestPinned(t *testing.T) {
	all := []string{"a", "b", "c", "d", "e", "e-1", "x"}
	for i := range all {
		for k := range base() {
			for _, other := range []string{"main", "last", "gone"} {
				var pins []api.Pin
				for j, name := range all {
					to := other
					if i == j {
						to = base()[k].Name
					}
					pins = append(pins, api.Pin{Name: name, Shelf: to})
				}
				checkIs(t, base(), pins, all[i], k, entriesOf(base()[k], all[i]), api.OK)
				checkIs(t, base(), pins[i:i+1], all[i], k, entriesOf(base()[k], all[i]), api.OK)
				check(t, base(), pins, names...)
				// A pin is found by its Name, not by its Shelf.
				check(t, base(), slices.Delete(pins, i, i+1), names...)
			}
		}
	}
	for _, to := range []string{"gone", "mai", "main-2", "sidd", "sidf", "a", "empt"} {
		checkIs(t, base(), []api.Pin{{Name: "a", Shelf: to}}, "a", 0, nil, api.ErrShelf)
		checkIs(t, base(), []api.Pin{{Name: "x", Shelf: to}}, "x", 0, nil, api.ErrShelf)
		checkIs(t, base(), []api.Pin{{Name: "x", Shelf: to}}, "b", 0, []int{0}, api.OK)
	}
}

// P15.1: pins that are not valid, at any place, for any name.
func TestPins(t *testing.T) {
	long := strings.Repeat("z", 16)
	good := []api.Pin{{Name: "a", Shelf: "main"}, {Name: "a-1", Shelf: "gone"}, {Name: "a1", Shelf: "main"}, {Name: "b", Shelf: "side"}, {Name: long, Shelf: long}}
	if !validPins(good) {
		t.Fatal("the pins are not valid")
	}
	asked := append([]string{"a-1", "a1", long, "gone"}, names...)
	refused := func(pins []api.Pin) {
		t.Helper()
		for _, name := range asked {
			checkIs(t, base(), pins, name, 0, nil, api.ErrPin)
			checkIs(t, nil, pins, name, 0, nil, api.ErrPin)
			checkIs(t, make([]api.Shelf, 1), pins, name, 0, nil, api.ErrArg)
		}
	}
	check(t, base(), good, asked...)
	for i := range good {
		check(t, base(), good[i:], asked...)
		check(t, base(), good[:i], asked...)
		for _, s := range []string{"", "A", "-", "a-", "a--b", "1", "a_b", "a b", "a.b", "\xff", "ä", "zz\n", strings.Repeat("z", 17)} {
			pins := slices.Clone(good)
			pins[i].Name = s
			refused(pins)
			refused(pins[i : i+1])
			pins = slices.Clone(good)
			pins[i].Shelf = s
			refused(pins)
			refused(pins[i : i+1])
		}
		for k := range i {
			pins := slices.Clone(good)
			pins[i], pins[k] = pins[k], pins[i]
			refused(pins)
			refused([]api.Pin{good[i], good[k]})
			pins = slices.Clone(good)
			pins[i].Name = pins[k].Name
			refused(pins)
		}
		refused(slices.Insert(slices.Clone(good), i, good[i]))
		refused([]api.Pin{{Name: good[i].Name, Shelf: "main"}, {Name: good[i].Name, Shelf: "side"}})
	}
}

// P15.1: errors in their order, also where the later ones apply too.
func TestOrder(t *testing.T) {
	bad := base()
	bad[3].Name = "main"
	wrong := []api.Pin{{Name: "a", Shelf: "gone"}, {Name: "a", Shelf: "main"}}
	gone := []api.Pin{{Name: "a", Shelf: "gone"}, {Name: "f", Shelf: "gone"}}
	for _, c := range []struct {
		l    []api.Shelf
		pins []api.Pin
		name string
		err  api.Errno
	}{
		{bad, wrong, "a", api.ErrArg},
		{bad, wrong, "f", api.ErrArg},
		{bad, gone, "a", api.ErrArg},
		{bad, nil, "a", api.ErrArg},
		{bad, nil, "f", api.ErrArg},
		{base(), wrong, "a", api.ErrPin},
		{base(), wrong, "b", api.ErrPin},
		{base(), wrong, "f", api.ErrPin},
		{base(), gone, "a", api.ErrShelf},
		{base(), gone, "f", api.ErrShelf},
		{base(), gone[:1], "f", api.ErrNone},
		{nil, wrong, "a", api.ErrPin},
		{nil, gone, "a", api.ErrShelf},
		{nil, gone, "b", api.ErrNone},
	} {
		checkIs(t, c.l, c.pins, c.name, 0, nil, c.err)
	}
}

// P15.1: all lists of up to three shelves, each with one, both or none of two packages,
// with all pins of these packages.
func TestAll(t *testing.T) {
	shelves := []string{"t", "m", "s"}
	targets := []string{"", "t", "m", "s", "gone"}
	contents := [][]string{nil, {"a 1.0.0"}, {"-b 1.0.0"}, {"a 1.0.0", "b 1.0.0", "a 0.9.0"}}
	lists, last := [][]api.Shelf{nil}, [][]api.Shelf{nil}
	for _, name := range shelves {
		var longer [][]api.Shelf
		for _, l := range last {
			for _, texts := range contents {
				longer = append(longer, append(slices.Clone(l), of(name, texts...)))
			}
		}
		lists, last = append(lists, longer...), longer
	}
	for _, l := range lists {
		for _, a := range targets {
			for _, b := range targets {
				var pins []api.Pin
				if a != "" {
					pins = append(pins, api.Pin{Name: "a", Shelf: a})
				}
				if b != "" {
					pins = append(pins, api.Pin{Name: "b", Shelf: b})
				}
				check(t, l, pins, "a", "b", "c", "m")
			}
		}
	}
	if len(lists) != 85 {
		t.Errorf("of the lists: %d", len(lists))
	}
}

// P15.1: an entry that was withdrawn counts, in From and in List.
func TestYanked(t *testing.T) {
	for _, mask := range []int{0, 1, 2, 3, 4, 5, 6, 7} {
		l := []api.Shelf{of("main", "b 1.0.0", "a 2.0.0", "a 1.0.0"), of("side", "a 1.0.0")}
		for i := range l[0].Entries {
			l[0].Entries[i].Yanked = mask>>i&1 == 1
		}
		checkIs(t, l, nil, "a", 0, []int{2, 1}, api.OK)
		checkIs(t, l, nil, "b", 0, []int{0}, api.OK)
		checkIs(t, l, []api.Pin{{Name: "a", Shelf: "side"}}, "a", 1, []int{0}, api.OK)
	}
}

// P15.1: the first and the last entry of shelves of all sizes.
func TestSizes(t *testing.T) {
	s := of("main")
	for n := range 64 {
		s = put(s, rec(fmt.Sprintf("p%d 1.%d.0", n/2, 63-n)))
		l := []api.Shelf{of("none"), s, of("side", "p0 1.0.0", "p31 1.0.0", "p32 1.0.0")}
		check(t, l, nil, "p0", "p31", "p32", "p", fmt.Sprintf("p%d", n/2))
		check(t, l, []api.Pin{{Name: "p0", Shelf: "side"}, {Name: "p31", Shelf: "main"}}, "p0", "p31", "p32")
	}
}

// sample is a random valid list of shelves.
func sample(r *rand.Rand) []api.Shelf {
	var l []api.Shelf
	for _, i := range r.Perm(5)[:r.Intn(5)] {
		s := api.Shelf{Name: []string{"main", "side", "a", "b-1", "z9"}[i]}
		for range r.Intn(8) {
			x := rec(fmt.Sprintf("%c %d.%d.0", 'a'+r.Intn(4), r.Intn(3), r.Intn(12)))
			if shelf.Find(s, x.Name, x.V) < 0 {
				s = put(s, x)
				s.Entries[len(s.Entries)-1].Yanked = r.Intn(3) == 0
			}
		}
		l = append(l, s)
	}
	return l
}

// samplePins is a random list of pins, mostly a valid one.
func samplePins(r *rand.Rand) []api.Pin {
	var pins []api.Pin
	for _, name := range []string{"a", "b", "c", "c-1", "d", "e"} {
		if r.Intn(3) == 0 {
			pins = append(pins, api.Pin{Name: name, Shelf: []string{"main", "side", "a", "b-1", "z9", "gone"}[r.Intn(6)]})
		}
	}
	if len(pins) > 1 && r.Intn(5) == 0 {
		pins[0], pins[1] = pins[1], pins[0]
	}
	return pins
}

// P15.1: random lists, valid and not.
func TestRandom(t *testing.T) {
	r := rand.New(rand.NewSource(1))
	met := map[api.Errno]int{}
	for i := 0; i < 1500 && !t.Failed(); i++ {
		l, pins := sample(r), samplePins(r)
		if len(l) > 1 && r.Intn(8) == 0 {
			l[r.Intn(len(l))].Name = l[0].Name
		}
		check(t, l, pins, "a", "b", "c", "d", "e", "main")
		for _, name := range []string{"a", "c", "e"} {
			_, err := From(l, pins, name)
			met[err]++
		}
	}
	for _, err := range []api.Errno{api.OK, api.ErrArg, api.ErrPin, api.ErrShelf, api.ErrNone} {
		if met[err] < 50 {
			t.Errorf("of the results: %v, %d times", err, met[err])
		}
	}
}

// P15.2: where a package comes from, nothing changes by what is published, or withdrawn,
// on other shelves behind this one, or on any other if there is a pin; nor by one more
// shelf at the end.
func TestOthers(t *testing.T) {
	r := rand.New(rand.NewSource(2))
	held := 0
	for i := 0; i < 400 && !t.Failed(); i++ {
		l, pins := sample(r), samplePins(r)
		for _, name := range []string{"a", "b", "c", "d"} {
			at, list, err := List(l, pins, name)
			if err != api.OK {
				continue
			}
			pinned := slices.ContainsFunc(pins, func(p api.Pin) bool { return p.Name == name })
			for k := range l {
				if k == at || k < at && !pinned {
					continue
				}
				held++
				more := slices.Clone(l)
				more[k] = put(more[k], rec(name+" 5.0.0"))
				checkIs(t, more, pins, name, at, list, api.OK)
				more[k], _ = shelf.Yank(more[k], name, api.Version{Major: 5}, true)
				checkIs(t, more, pins, name, at, list, api.OK)
				more[k] = of("other", name+" 0.0.1", name+" 9.0.0")
				checkIs(t, more, pins, name, at, list, api.OK)
				checkIs(t, slices.Delete(more, k, k+1), pins, name, at-before(k, at), list, api.OK)
			}
			if len(l) < 4 {
				held++
				checkIs(t, append(slices.Clone(l), of("other", name+" 1.0.0")), pins, name, at, list, api.OK)
			}
		}
	}
	if held < 400 {
		t.Errorf("of the cases: %d", held)
	}
}

// before is 1 if k is less than at, and 0 otherwise.
func before(k, at int) int {
	if k < at {
		return 1
	}
	return 0
}

// P15.1, P15.2: what is published on an earlier shelf is taken from there, if there is no
// pin; what is published on the same one is found there.
func TestPublished(t *testing.T) {
	v := api.Version{Major: 1, Minor: 5}
	for at := range base() {
		for k := range base() {
			l := []api.Shelf{of("main"), of("side"), of("empty"), of("last")}
			l[at] = put(put(l[at], rec("p 2.0.0")), rec("p 1.0.0"))
			checkIs(t, l, nil, "p", at, []int{1, 0}, api.OK)
			l[k] = put(l[k], api.Record{Name: "p", V: v})
			pins := []api.Pin{{Name: "p", Shelf: l[at].Name}}
			switch {
			case k < at:
				checkIs(t, l, nil, "p", k, []int{0}, api.OK)
				checkIs(t, l, pins, "p", at, []int{1, 0}, api.OK)
			case k == at:
				checkIs(t, l, nil, "p", at, []int{1, 2, 0}, api.OK)
				checkIs(t, l, pins, "p", at, []int{1, 2, 0}, api.OK)
			default:
				checkIs(t, l, nil, "p", at, []int{1, 0}, api.OK)
				checkIs(t, l, pins, "p", at, []int{1, 0}, api.OK)
			}
		}
	}
}

// R4 for P15.1: arguments stay as they are, what lies behind them does not count, and
// results are new memory.
func TestMemory(t *testing.T) {
	pins := []api.Pin{{Name: "a", Shelf: "last"}, {Name: "d", Shelf: "side"}, {Name: "e", Shelf: "gone"}}
	l, few := base(), pins[:2]
	l[1].Entries = l[1].Entries[:3]
	was, wasPins := fmt.Sprintf("%#v %#v", l, base()[1].Entries[3:]), slices.Clone(pins)
	for n := range 5 {
		for m := range 4 {
			check(t, l[:n], pins[:m], names...)
		}
	}
	checkIs(t, l[:3], few, "e", 0, nil, api.ErrNone)
	checkIs(t, l[:3], few, "a", 0, nil, api.ErrShelf)
	checkIs(t, l[:3], nil, "e-1", 0, nil, api.ErrNone)
	checkIs(t, l[:1], nil, "a", 0, nil, api.ErrNone)
	if now := fmt.Sprintf("%#v %#v", l, l[1].Entries[:7][3:]); now != was || !slices.Equal(pins, wasPins) {
		t.Errorf("the arguments became %s, %v", now, pins)
	}
	_, x, _ := List(base(), nil, "a")
	_, y, _ := List(base(), nil, "a")
	clear(x[:cap(x)])
	if !slices.Equal(y, []int{5, 4, 2, 0, 6}) {
		t.Errorf("the lists of two calls share memory: %v", y)
	}
}

// R5 for P15.1: several goroutines may call the functions at the same time.
func TestTogether(t *testing.T) {
	l, pins := base(), []api.Pin{{Name: "b", Shelf: "side"}, {Name: "c", Shelf: "gone"}}
	wrong := make(chan string)
	for range 8 {
		go func() {
			told := ""
			for range 100 {
				a, err := From(l, pins, "a")
				b, list, fault := List(l, pins, "b")
				c, none := From(l, pins, "c")
				if !May(l) || a != 1 || err != api.OK || b != 1 || !slices.Equal(list, []int{1}) || fault != api.OK || c != 0 || none != api.ErrShelf {
					told = "a result depends on other calls"
				}
			}
			wrong <- told
		}()
	}
	for range 8 {
		if told := <-wrong; told != "" {
			t.Error(told)
		}
	}
}

// R1 for P15.1: lists, names and records of any length.
func TestLong(t *testing.T) {
	start := time.Now()
	text := strings.Repeat("a", 1<<24)
	many := make([]api.Shelf, 1<<20)
	for i := range many {
		many[i].Name = fmt.Sprintf("s%d", i)
	}
	checkIs(t, many, nil, "a", 0, nil, api.ErrArg)
	checkIs(t, make([]api.Shelf, 1<<20), nil, "a", 0, nil, api.ErrArg)
	checkIs(t, []api.Shelf{{Name: text}, {Name: text}}, nil, text, 0, nil, api.ErrArg)
	checkIs(t, []api.Shelf{{Name: "main", Entries: make([]api.Entry, 1<<20)}}, nil, text, 0, nil, api.ErrArg)
	checkIs(t, base(), nil, text, 0, nil, api.ErrNone)
	checkIs(t, base(), []api.Pin{{Name: text, Shelf: "main"}}, text, 0, nil, api.ErrPin)
	checkIs(t, base(), []api.Pin{{Name: "a", Shelf: text}}, "a", 0, nil, api.ErrPin)
	// There is no limit to the number of pins.
	pins := make([]api.Pin, 1<<18)
	for i := range pins {
		pins[i] = api.Pin{Name: fmt.Sprintf("p%06d", i), Shelf: "side"}
	}
	for n := range 20 {
		check(t, base(), pins[:n], "a", "b", "p000000", "p000007", "p000008", "p000018", "p000019")
	}
	for _, i := range []int{0, 1, len(pins) / 2, len(pins) - 1} {
		checkIs(t, base(), pins, pins[i].Name, 1, nil, api.OK)
	}
	checkIs(t, base(), pins, "a", 1, []int{5, 4, 2, 0, 6}, api.OK)
	pins[len(pins)-1].Name = pins[len(pins)-2].Name
	checkIs(t, base(), pins, "a", 0, nil, api.ErrPin)
	if took := time.Since(start); took > 20*time.Second {
		t.Errorf("long arguments took %v", took)
	}
}

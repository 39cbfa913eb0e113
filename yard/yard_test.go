package yard

import (
	"fmt"
	"maps"
	"math/rand"
	"reflect"
	"slices"
	"strings"
	"testing"
	"time"
	"unsafe"

	"linchpin/api"
	"linchpin/manifest"
	"linchpin/record"
	"linchpin/scope"
	"linchpin/set"
	"linchpin/tell"
	"linchpin/version"
)

// faultOf is a second Check.
func faultOf(l []api.Manifest) (api.Errno, int) {
	if len(l) == 0 {
		return api.ErrNone, 0
	}
	if len(l) > 4 {
		return api.ErrLong, 0
	}
	seen := map[string]bool{}
	for i, m := range l {
		if err, _ := manifest.Check(m); err != api.OK {
			return err, i
		}
		if seen[m.Rec.Name] {
			return api.ErrTwice, i
		}
		seen[m.Rec.Name] = true
	}
	return api.OK, 0
}

// pinsOf is a second Pins of a list that Check accepts.
func pinsOf(l []api.Manifest) ([]api.Pin, api.Errno) {
	shelves := map[string]string{}
	for _, m := range l {
		for _, p := range m.Pins {
			if s, ok := shelves[p.Name]; ok && s != p.Shelf {
				return nil, api.ErrPin
			}
			shelves[p.Name] = p.Shelf
		}
	}
	var pins []api.Pin
	for _, name := range slices.Sorted(maps.Keys(shelves)) {
		pins = append(pins, api.Pin{Name: name, Shelf: shelves[name]})
	}
	return pins, api.OK
}

// heldOf is a second Held of a list that Check accepts: what no hold keeps out.
func heldOf(l []api.Manifest, name string) api.Set {
	out := set.None()
	for _, m := range l {
		for _, h := range m.Holds {
			if h.Name == name {
				within, _ := scope.Of(h.Range)
				out = set.Or(out, set.Not(within))
			}
		}
	}
	return set.Not(out)
}

// some is a list of members as a text, shortened.
func some(l []api.Manifest) string {
	var b strings.Builder
	for _, m := range l[:min(len(l), 5)] {
		fmt.Fprintf(&b, "%.40q %.80q %.120q; ", m.Rec.Name, fmt.Sprint(m.Pins), fmt.Sprint(m.Holds))
	}
	return fmt.Sprintf("%d members: %.600s", len(l), b.String())
}

// checkPins holds Pins against what it is to return.
func checkPins(t *testing.T, l []api.Manifest, want []api.Pin, err api.Errno) {
	t.Helper()
	if pins, is := Pins(l); is != err || !slices.Equal(pins, want) || err != api.OK && pins != nil {
		t.Errorf("Pins(%s): %v, %v; want %v, %v", some(l), pins, is, want, err)
	}
}

// checkHeld holds Held, for a list that Check accepts, against what it is to return.
func checkHeld(t *testing.T, l []api.Manifest, name string, want api.Set) {
	t.Helper()
	if got, err := Held(l, name); err != api.OK || !set.May(got) || !set.Same(got, want) {
		t.Errorf("Held(%s, %.40q): %s, %v; want %s", some(l), name, tell.Print(got), err, tell.Print(want))
	}
}

// checkMember holds Member against what it is to return.
func checkMember(t *testing.T, l []api.Manifest, name string, want int) {
	t.Helper()
	if at := Member(l, name); at != want {
		t.Errorf("Member(%s, %.40q): %d; want %d", some(l), name, at, want)
	}
}

// checkFault holds all functions against a list that Check refuses.
func checkFault(t *testing.T, l []api.Manifest, want api.Errno, at int) {
	t.Helper()
	if err, i := Check(l); err != want || i != at {
		t.Errorf("Check(%s): %v, %d; want %v, %d", some(l), err, i, want, at)
	}
	checkPins(t, l, nil, want)
	asked := []string{"", "q"}
	for _, m := range l[:min(len(l), 5)] {
		asked = append(asked, m.Rec.Name)
	}
	for _, name := range asked {
		if got, err := Held(l, name); err != want || !reflect.DeepEqual(got, api.Set{}) {
			t.Errorf("Held(%s, %.40q): %v, %v; want %v", some(l), name, got, err, want)
		}
		checkMember(t, l, name, -1)
	}
}

// checkGood holds all functions against second ones, for a list that Check accepts, and
// reports whether the pins of its members go together.
func checkGood(t *testing.T, l []api.Manifest, names ...string) bool {
	t.Helper()
	if err, at := Check(l); err != api.OK || at != 0 {
		t.Errorf("Check(%s): %v, %d", some(l), err, at)
	}
	pins, err := pinsOf(l)
	checkPins(t, l, pins, err)
	for _, name := range names {
		checkHeld(t, l, name, heldOf(l, name))
		at := slices.IndexFunc(l, func(m api.Manifest) bool { return m.Rec.Name == name })
		checkMember(t, l, name, at)
	}
	return err == api.OK
}

// checkAny holds all functions against second ones, and reports whether Check accepts l,
// and whether the pins of its members go together.
func checkAny(t *testing.T, l []api.Manifest, names ...string) (accepted, pinned bool) {
	t.Helper()
	if err, at := faultOf(l); err != api.OK {
		checkFault(t, l, err, at)
		return false, false
	}
	return true, checkGood(t, l, names...)
}

// of is the manifest that these lines tell.
func of(lines ...string) api.Manifest {
	m, err, at := manifest.Parse(strings.Join(lines, "\n") + "\n")
	if err != api.OK {
		panic(fmt.Sprintf("%q: %v, %d", lines, err, at))
	}
	return m
}

// members are members with these Names, which have nothing else.
func members(names ...string) []api.Manifest {
	var l []api.Manifest
	for _, name := range names {
		l = append(l, of("package "+name+" 1.0.0"))
	}
	return l
}

// pins are the pins that a text tells, as "a:main b:side".
func pins(text string) []api.Pin {
	var l []api.Pin
	for _, one := range strings.Fields(text) {
		name, shelf, _ := strings.Cut(one, ":")
		l = append(l, api.Pin{Name: name, Shelf: shelf})
	}
	return l
}

// pinned is a member for each text, with the pins that it tells.
func pinned(texts ...string) []api.Manifest {
	l := members("app", "lib", "tool", "web")[:len(texts)]
	for i, text := range texts {
		l[i].Pins = pins(text)
	}
	return l
}

// held is a member for each text, with the holds that it tells, as "q ^1; r *".
func held(texts ...string) []api.Manifest {
	l := members("app", "lib", "tool", "web")[:len(texts)]
	for i, text := range texts {
		for _, one := range strings.Split(text, "; ") {
			if name, within, ok := strings.Cut(one, " "); ok {
				l[i].Holds = append(l[i].Holds, api.Hold{Name: name, Range: within})
			}
		}
	}
	return l
}

// orders are the lists with the elements of l, in all orders.
func orders[T any](l []T) [][]T {
	if len(l) == 0 {
		return [][]T{nil}
	}
	var all [][]T
	for _, rest := range orders(l[1:]) {
		for i := range len(rest) + 1 {
			all = append(all, slices.Insert(slices.Clone(rest), i, l[0]))
		}
	}
	return all
}

// rich are the lines of a record that has some of all.
var rich = []string{"package rich 1.2.3-rc.1+b.7", "need", "any zip best,fast bare ^1", "when os = linux", "option o", "need", "any lib - full * || =3.0.0-a",
	"bar a <1", "bar r *", "when abi = gnu", "feature default more", "feature more ?o zip/x"}

// base is a list of as many members as there may be, with pins and holds.
func base() []api.Manifest {
	return []api.Manifest{
		of(slices.Concat(rich, []string{"pin a side", "pin b main", "pin zip main", "hold a <2", "hold q >=1.5.0-b, <3"})...),
		of("package app 2.0.0", "need", "any lib - full *", "pin a-1 side", "pin zip main", "hold app *", "hold q !=2.0.0-rc.1, >1.5.0-c || =1.5.0-b"),
		of("package lib 0.0.0", "hold b !=2.0.0", "hold zip =1.2.3 || =2"),
		of("package a1 1.0.0+b", "pin a side", "pin a1 app", "pin aa main", "pin zip main", "hold b !=2.0.1 || =2.0.1-a", "hold zip ^1.2"),
	}
}

// names are all that base and others call packages, members or shelves, and what no
// manifest calls so.
var names = []string{"a", "a-1", "a1", "aa", "app", "b", "lib", "main", "q", "r", "rich", "side", "tool", "web", "zip",
	"x", "", "A", "a ", " a", "a\n", "\x00", "-a", "ap", "appa", "\xff", "*", "zzzzzzzzzzzzzzzzz"}

// P17.1 to P17.3: the results for a list of four members, in every order of them.
func TestTable(t *testing.T) {
	want := map[string]string{
		"a":   "<2.0.0",
		"app": "*",
		"b":   "<2.0.0 or >=2.0.2", // one hold of b admits 2.0.1-a, the other does not
		"q":   ">=1.5.0 <3.0.0 / >=1.5.0-b <=1.5.0-b or >1.5.0-c <1.5.0",
		"zip": ">=1.2.3 <1.2.4",
	}
	for _, l := range orders(base()) {
		checkGood(t, l, names...)
		checkPins(t, l, pins("a:side a-1:side a1:app aa:main b:main zip:main"), api.OK)
		for name, text := range want {
			if got, err := Held(l, name); err != api.OK || tell.Print(got) != text {
				t.Errorf("Held(%q): %s, %v; want %s", name, tell.Print(got), err, text)
			}
		}
		for _, name := range []string{"a-1", "a1", "aa", "r", "rich", "main", "", "x", "\xff"} {
			checkHeld(t, l, name, set.All())
		}
		for i, m := range l {
			checkMember(t, l, m.Rec.Name, i)
		}
		for _, name := range []string{"a", "b", "q", "zip", "main", "", "x", "\xff"} {
			checkMember(t, l, name, -1)
		}
	}
	// Each beginning and each end of it alone.
	for n := 1; n < 4; n++ {
		checkGood(t, base()[:n], names...)
		checkGood(t, base()[n:], names...)
	}
}

// P17.1: how many members there may be.
func TestNumbers(t *testing.T) {
	checkFault(t, nil, api.ErrNone, 0)
	checkFault(t, []api.Manifest{}, api.ErrNone, 0)
	checkFault(t, base()[4:], api.ErrNone, 0)
	l := append(base(), members("tool", "web", "x", "y", "z")...)
	for n := 1; n <= len(l); n++ {
		if n <= 4 {
			checkGood(t, l[:n], names...)
			checkGood(t, members("d", "c", "b", "a")[:n], "a", "b", "c", "d")
		} else {
			checkFault(t, l[:n], api.ErrLong, 0)
			checkFault(t, l[len(l)-n:], api.ErrLong, 0)
		}
	}
	// More than there may be, and also wrong.
	for i := range 5 {
		l := append(base(), members("tool")...)
		l[i] = api.Manifest{}
		checkFault(t, l, api.ErrLong, 0)
		l[i] = l[(i+1)%5]
		checkFault(t, l, api.ErrLong, 0)
	}
	for n := range 8 {
		want := api.ErrLong
		switch {
		case n == 0:
			want = api.ErrNone
		case n <= 4:
			want = api.ErrName
		}
		checkFault(t, make([]api.Manifest, n), want, 0)
	}
}

// P17.1: equal Names at any places, whatever else the members have.
func TestTwice(t *testing.T) {
	for n := 2; n <= 4; n++ {
		for i := range n {
			for k := range i {
				l := base()[:n]
				l[i].Rec.Name = l[k].Rec.Name
				checkFault(t, l, api.ErrTwice, i)
				l = base()[:n]
				l[i] = l[k]
				checkFault(t, l, api.ErrTwice, i)
				l = members("d", "c", "b", "a")[:n]
				l[k].Rec.Name, l[k].Rec.V = l[i].Rec.Name, api.Version{Major: 2}
				checkFault(t, l, api.ErrTwice, i)
			}
		}
	}
	checkFault(t, members("a", "a"), api.ErrTwice, 1)
	checkFault(t, members("b", "a", "a", "b"), api.ErrTwice, 2)
	checkFault(t, members("b", "a", "b", "a"), api.ErrTwice, 2)
	checkFault(t, members("a", "a", "a", "a"), api.ErrTwice, 1)
	// Names that are nearly equal, or that stand elsewhere in a member.
	checkGood(t, members("a", "a1", "aa", "a-1"), names...)
	checkGood(t, members("zzzzzzzzzzzzzzzz", "zzzzzzzzzzzzzzz", "z", "zz"), "z", "zz", "zzz", "zzzzzzzzzzzzzzz", "zzzzzzzzzzzzzzzz")
	l := pinned("tool:web", "app:app", "lib:tool", "")
	l[3].Holds = []api.Hold{{Name: "app", Range: "*"}, {Name: "web", Range: "^1"}}
	checkGood(t, l, names...)
}

// turn makes one change to a member of base.
type turn struct {
	do  func(m *api.Manifest)
	err api.Errno
}

// turns are changes that make any member wrong, most of them with an index of their own.
func turns() []turn {
	needs := func(l ...api.Need) []api.Need {
		return append(slices.Repeat([]api.Need{{Any: []api.Wish{{Name: "x", Range: "*"}}}}, 2), l...)
	}
	two := []api.Pin{{Name: "a", Shelf: "main"}, {Name: "b", Shelf: "main"}}
	return []turn{
		{func(m *api.Manifest) { m.Rec.Name = "App" }, api.ErrName},
		{func(m *api.Manifest) { m.Rec.V.Minor = 10000 }, api.ErrVersion},
		{func(m *api.Manifest) { m.Rec.Bars = make([]api.Bar, 9) }, api.ErrLong},
		{func(m *api.Manifest) { m.Rec.Needs = needs(api.Need{}) }, api.ErrNone},
		{func(m *api.Manifest) { m.Rec.Needs = needs(api.Need{Any: []api.Wish{{Name: m.Rec.Name, Range: "*"}}}) }, api.ErrTwice},
		{func(m *api.Manifest) { m.Rec.Bars = []api.Bar{{Name: "x", Range: "*"}, {Name: "y", Range: "1"}} }, api.ErrRange},
		{func(m *api.Manifest) {
			m.Rec.Bars = []api.Bar{{Name: "x", Range: "*"}, {Name: "y", Range: "*", When: "os"}}
		}, api.ErrMark},
		{func(m *api.Manifest) { m.Rec.Features = []api.Feature{{Name: "b"}, {Name: "a"}} }, api.ErrFeature},
		{func(m *api.Manifest) { m.Rec.Features = []api.Feature{{Name: "a"}, {Name: "b", Of: []string{"?p"}}} }, api.ErrOption},
		{func(m *api.Manifest) { m.Rec.Features = []api.Feature{{Name: "a"}, {Name: "b", Of: []string{"p/p"}}} }, api.ErrNeed},
		{func(m *api.Manifest) { m.Pins = make([]api.Pin, 9) }, api.ErrLong},
		{func(m *api.Manifest) { m.Pins = append(slices.Clone(two), api.Pin{Name: "c"}) }, api.ErrPin},
		{func(m *api.Manifest) { m.Pins = append(slices.Clone(two), two[1]) }, api.ErrPin},
		{func(m *api.Manifest) {
			m.Holds = append([]api.Hold{{Name: "a", Range: "*"}}, api.Hold{Name: "a", Range: "*"})
		}, api.ErrName},
		{func(m *api.Manifest) {
			m.Holds = append([]api.Hold{{Name: "a", Range: "*"}}, api.Hold{Name: "b", Range: ">=1,<2"})
		}, api.ErrRange},
		{func(m *api.Manifest) { *m = api.Manifest{} }, api.ErrName},
	}
}

// P17.1, P17.2, R6: every error of a manifest at every place, with the index of the member,
// alone and beside all others at other places.
func TestCheckOrder(t *testing.T) {
	l := turns()
	for i := range 4 {
		for _, x := range l {
			one := base()[i : i+1]
			x.do(&one[0])
			checkFault(t, one, x.err, 0)
			all := base()
			x.do(&all[i])
			checkFault(t, all, x.err, i)
			for k := range i {
				for _, y := range l {
					all := base()
					x.do(&all[i])
					y.do(&all[k])
					checkFault(t, all, y.err, k)
				}
			}
		}
	}
}

// P17.1, R6: an error of a manifest comes before an equal Name of the same member, and
// each of them before those of later members.
func TestTwiceOrder(t *testing.T) {
	for _, x := range turns() {
		for i := 1; i < 4; i++ {
			for k := range i {
				l := base()
				l[i].Rec.Name = l[k].Rec.Name
				x.do(&l[i])
				checkFault(t, l, x.err, i)
				for at := range 4 {
					l := base()
					l[i].Rec.Name = l[k].Rec.Name
					x.do(&l[at])
					if at <= i {
						checkFault(t, l, x.err, at)
					} else {
						checkFault(t, l, api.ErrTwice, i)
					}
				}
			}
		}
	}
	// A member that is wrong by itself alone, and wrong pins of right members.
	l := pinned("a:main", "a:side", "", "")
	l[3].Rec.Name = "app"
	checkFault(t, l, api.ErrTwice, 3)
	l[2].Holds = make([]api.Hold, 1)
	checkFault(t, l, api.ErrName, 2)
	l[0].Pins[0].Shelf = "Main"
	checkFault(t, l, api.ErrPin, 0)
}

// P17.2, P17.3: pins, written out, in every order of the members.
func TestPins(t *testing.T) {
	long := strings.Repeat("z", 16)
	for want, texts := range map[string][]string{
		"":                                   {""},
		" ":                                  {"", "", "", ""},
		"a:main":                             {"a:main"},
		"a:main ":                            {"a:main", "", "a:main", "a:main"},
		"a:main b:main":                      {"b:main", "a:main"},
		"a:x b:y c:z":                        {"a:x c:z", "b:y"},
		"a:m a-1:m a1:m aa:m ab:m b:m":       {"a1:m b:m", "a-1:m ab:m", "aa:m", "a:m"},
		"a:z b:y c:x d:w":                    {"b:y c:x", "a:z d:w", "c:x d:w", "a:z b:y c:x d:w"},
		"a:a app:app lib:tool tool:web":      {"tool:web", "app:app lib:tool", "a:a"},
		"y:m z:m " + long + ":" + long:       {"z:m", "y:m " + long + ":" + long},
		"a:m b:m c:m d:m e:m f:m g:m h:m":    {"a:m b:m c:m d:m e:m f:m g:m h:m", "a:m b:m c:m d:m e:m f:m g:m h:m"},
		"a0:m a1:m a2:m a3:m b0:m b1:m b2:m": {"a0:m a2:m b0:m b2:m", "a1:m a3:m b1:m"},
	} {
		for _, l := range orders(pinned(texts...)) {
			checkPins(t, l, pins(want), api.OK)
			checkGood(t, l, names...)
		}
	}
}

// P17.2, P17.3: a package that any two members pin to different shelves, beside others.
func TestOtherShelf(t *testing.T) {
	for _, texts := range [][]string{
		{"a:main", "a:side"}, {"a:main", "a:main", "a:side"}, {"a:main", "", "", "a:side"}, {"a:main", "a:side", "a:main", "a:side"},
		{"a:main", "a:side", "a:third"}, {"a:main b:main", "b:side"}, {"a:main b:main c:main", "a:main b:side c:main"},
		{"a:a b:b c:c", "d:d e:e", "f:f g:g", "c:cc"}, {"a:m", "b:m", "a:m b:m", "b:mm"}, {"z:a", "a:z", "z:z"},
		{"a:x b:x c:x d:x e:x f:x g:x h:x", "h:y"}, {"a:x b:x c:x d:x e:x f:x g:x h:x", "a:y"}, {"app:lib", "app:app"},
	} {
		for _, l := range orders(pinned(texts...)) {
			checkPins(t, l, nil, api.ErrPin)
			checkGood(t, l, names...)
		}
	}
	for i := range 4 {
		for k := range i {
			for n := range 8 {
				all := "a:m b:m c:m d:m e:m f:m g:m h:m"
				l := pinned(all, all, all, all)
				checkPins(t, l, pins(all), api.OK)
				l[i].Pins[n].Shelf = "n"
				checkPins(t, l, nil, api.ErrPin)
				l[k].Pins[n].Shelf = "n"
				checkPins(t, l, nil, api.ErrPin)
				checkGood(t, l, "a")
			}
		}
	}
	// The same shelves for other packages.
	checkPins(t, pinned("a:m b:n", "c:n d:m"), pins("a:m b:n c:n d:m"), api.OK)
}

// P17.2: as many pins as four members can have.
func TestMany(t *testing.T) {
	l, want := members("app", "lib", "tool", "web"), []api.Pin(nil)
	for i := range 32 {
		p := api.Pin{Name: fmt.Sprintf("p%02d", i), Shelf: fmt.Sprintf("s%d", i%5)}
		want = append(want, p)
		at := i * 7 % 4
		l[at].Pins = append(l[at].Pins, p)
	}
	for _, l := range orders(l) {
		checkPins(t, l, want, api.OK)
		checkGood(t, l, names...)
	}
}

// P17.2, P17.3: sets of versions, written out, in every order of the members.
func TestHeld(t *testing.T) {
	for _, c := range []struct {
		texts []string
		want  string // for q
	}{
		{[]string{""}, "* / *"}, {[]string{"", "", "", ""}, "* / *"}, {[]string{"p =1; qq =1; r =1"}, "* / *"},
		{[]string{"q *"}, "*"}, {[]string{"q *", "q *"}, "*"}, {[]string{"q ^1"}, ">=1.0.0 <2.0.0"}, {[]string{"", "q ^1", "", ""}, ">=1.0.0 <2.0.0"},
		{[]string{"q >=1, <3", "q >=2"}, ">=2.0.0 <3.0.0"}, {[]string{"q >=1, <3", "q >=2", "q =2.5.0-a"}, "-"},
		{[]string{"q <2", "q >=2"}, "-"}, {[]string{"q <=2.0.0", "q >=2"}, ">=2.0.0 <2.0.1"}, {[]string{"q =1", "q =2", "q *"}, "-"},
		{[]string{"q =1 || =3", "q =2 || =3"}, ">=3.0.0 <4.0.0"}, {[]string{"q !=1.0.0", "q !=1.0.1", "q <2", "q >=1"}, ">=1.0.2 <2.0.0"},
		{[]string{"q >1, <5", "q >0, <4", "q >2, <6", "q <3.5"}, ">=3.0.0 <3.5.0"}, {[]string{"q <1 || >2", "q <3"}, "<1.0.0"},
		{[]string{"q =1.0.0-a"}, "- / >=1.0.0-a <=1.0.0-a"}, {[]string{"q =1.0.0-a", "q *"}, "-"}, {[]string{"q =1.0.0-a", "q =1.0.0-a"}, "- / >=1.0.0-a <=1.0.0-a"},
		{[]string{"q >=1.0.0-a", "q <1.0.0-c"}, "- / >=1.0.0-a <1.0.0-c"}, {[]string{"q >=1.0.0-a", "q <2.0.0-c"}, ">=1.0.0 <2.0.0"},
		{[]string{"q >=1.0.0-b", "q >=1.0.0-a, !=1.0.0-c", "q >1.0.0-a, <1.0.1"}, ">=1.0.0 <1.0.1 / >=1.0.0-b <1.0.0-c or >1.0.0-c <1.0.0"},
		{[]string{"q =1.0.0-a || *", "q <2"}, "<2.0.0"}, {[]string{"a =2; q <2; r =3", "q =1.5; z =0"}, ">=1.5.0 <1.6.0"},
		{[]string{"app =9; q ^1", "lib =9; q ~1.2"}, ">=1.2.0 <1.3.0"}, {[]string{"q =0.0.0", "q <=9999.9999.9999"}, "<0.0.1"},
		{[]string{"q >=9999.9999.9999", "q *"}, ">=9999.9999.9999"}, {[]string{"q >9999.9999.9999"}, "-"}, {[]string{"q <0.0.0-0", "q *"}, "-"},
	} {
		for _, l := range orders(held(c.texts...)) {
			if got, err := Held(l, "q"); err != api.OK || tell.Print(got) != c.want {
				t.Errorf("Held(%s, q): %s, %v; want %s", some(l), tell.Print(got), err, c.want)
			}
			checkGood(t, l, append(names, "p", "qq", "z")...)
			checkPins(t, l, nil, api.OK)
		}
	}
}

// P17.2: as many holds as a member may have, of packages with nearly equal names.
func TestHolds(t *testing.T) {
	l := held("a =1; a-1 =2; a1 =3; aa =4; app =5; b =6; q =7; zzzzzzzzzzzzzzzz =8", "a =1.1; a-1 =2.1; a1 =3.1; aa =4.1; app =5.1; b =6.1; q =7.1; zzzzzzzzzzzzzzzz =8.1", "", "a *")
	for _, l := range orders(l) {
		checkGood(t, l, append(names, "zzzzzzzzzzzzzzzz")...)
		for i, name := range []string{"a", "a-1", "a1", "aa", "app", "b", "q", "zzzzzzzzzzzzzzzz"} {
			want, _ := scope.Of(fmt.Sprintf("=%d.1", i+1))
			checkHeld(t, l, name, want)
		}
	}
}

// P17.2: a version is in Held exactly if it is in the set of every hold.
func TestVersions(t *testing.T) {
	ranges := []string{"*", "<2", ">=1.1", "!=1.0.1", "=1.0.1-b", ">=1.0.1-b, <2", "<=1.0.1-b || >1.1.0-a", "^0.1 || ~1.0", ">1.0.1-a, !=1.0.1-c", "=2"}
	var all []api.Version
	for i := range 81 {
		v := api.Version{Major: i / 27, Minor: i / 9 % 3, Patch: i / 3 % 3, Build: "x"}
		for _, v.Pre = range []string{"", "a", "b", "b.0", "c"} {
			all = append(all, v)
		}
	}
	sets := map[string]api.Set{}
	for _, r := range ranges {
		sets[r], _ = scope.Of(r)
	}
	for _, a := range ranges {
		for _, b := range ranges {
			for _, c := range []string{"*", "<=1.0.1-b || >1.1.0-a"} {
				s, err := Held(held("q "+a, "r <1", "q "+b, "q "+c), "q")
				if err != api.OK {
					t.Fatalf("%s; %s; %s: %v", a, b, c, err)
				}
				for _, v := range all {
					if set.Has(s, v) != (set.Has(sets[a], v) && set.Has(sets[b], v) && set.Has(sets[c], v)) {
						t.Fatalf("Held with %s; %s; %s: %s of %s", a, b, c, tell.Print(s), version.Print(v))
					}
				}
			}
		}
	}
}

// P17.2: members by their Names, at every place; not what they need, pin or hold.
func TestMember(t *testing.T) {
	for n := 1; n <= 4; n++ {
		for _, l := range orders(base()[:n]) {
			for _, name := range names {
				at := -1
				for i, m := range l {
					if m.Rec.Name == name {
						at = i
					}
				}
				checkMember(t, l, name, at)
			}
		}
	}
	// No member of a list with an error, be it behind that member, or in its pins alone.
	l := append(base()[:3], api.Manifest{})
	checkMember(t, l, "rich", -1)
	checkMember(t, l, "", -1)
	checkMember(t, l[:3], "rich", 0)
	checkMember(t, append(base(), members("tool")...), "rich", -1)
	checkMember(t, members("a", "b", "b"), "a", -1)
	checkMember(t, members("a", "b", "b"), "b", -1)
	checkMember(t, nil, "", -1)
	// Pins that do not go together are no error of Check.
	l = pinned("a:x", "a:y")
	checkMember(t, l, "lib", 1)
	checkMember(t, l, "a", -1)
}

// P17.1 to P17.3: all lists of up to four members out of some.
func TestAll(t *testing.T) {
	kinds := []api.Manifest{
		of("package a 1.0.0", "pin x m", "hold q >=1, <3"),
		of("package a 2.0.0", "pin x n"),
		of("package b 1.0.0", "pin w m", "pin x m", "hold q =2.0.0 || =2.0.0-a"),
		of("package c 1.0.0", "pin x n", "hold q =2"),
		of("package d 1.0.0", "pin y n", "hold q =2.0.0-a || =2.1", "hold r *"),
		{Rec: api.Record{Name: "e"}, Pins: []api.Pin{{Name: "x"}}},
		{Rec: api.Record{Name: "f"}, Holds: []api.Hold{{Name: "q"}}},
	}
	lists, good, apart := [][]api.Manifest{nil}, 0, 0
	for range 4 {
		var longer [][]api.Manifest
		for _, l := range lists {
			for _, m := range kinds {
				longer = append(longer, append(slices.Clone(l), m))
			}
		}
		for _, l := range longer {
			accepted, pinned := checkAny(t, l, "a", "b", "d", "e", "q", "r", "x", "")
			if accepted {
				good++
			}
			if accepted && !pinned {
				apart++
			}
			if t.Failed() {
				return // as thousands of lists would be told
			}
		}
		lists = longer
	}
	// Of a, b, c and d, each at most once, in any order; a is one of two.
	if good != 5+(2*6+6)+(2*18+6)+2*24 {
		t.Errorf("%d lists are accepted", good)
	}
	// But not in one member, in two or three of the first a, b and d, or of the second a, c and d.
	if apart != good-5-2*(3*2+6) {
		t.Errorf("in %d lists, a package is pinned to two shelves", apart)
	}
}

// sample is a random list, mostly a valid one.
func sample(r *rand.Rand) []api.Manifest {
	words := []string{"a", "a-1", "a1", "aa", "app", "b", "lib", "q"}
	shelves := []string{"main", "side"}
	ranges := []string{"*", "^1.2", "<1 || >=2, !=3.1.4-rc.1", "=1", ">=1.2.3-a, <3", "=1.2.3-b || =2"}
	l := base()[:1+r.Intn(4)]
	for i := range l {
		m := &l[i]
		m.Rec.Name = []string{"app", "lib", "tool", "web", "x", "y"}[(i+r.Intn(8)/7)%6]
		m.Rec.Needs, m.Rec.Features, m.Pins, m.Holds = nil, nil, nil, nil
		for _, name := range words {
			if r.Intn(3) == 0 {
				m.Pins = append(m.Pins, api.Pin{Name: name, Shelf: shelves[max(0, r.Intn(12)-10)]})
			}
			if r.Intn(3) == 0 {
				m.Holds = append(m.Holds, api.Hold{Name: name, Range: ranges[r.Intn(len(ranges))]})
			}
		}
	}
	if all := turns(); r.Intn(12) == 0 {
		all[r.Intn(len(all))].do(&l[r.Intn(len(l))])
	}
	return l
}

// P17.1 to P17.3: random lists, and each in another order.
func TestRandom(t *testing.T) {
	r := rand.New(rand.NewSource(1))
	good, bound := 0, 0
	for i := 0; i < 2000 && !t.Failed(); i++ {
		l := sample(r)
		accepted, pinned := checkAny(t, l, "a", "aa", "app", "lib", "q", "x", "")
		if !accepted {
			continue
		}
		good++
		if pinned {
			bound++
		}
		other := slices.Clone(l)
		r.Shuffle(len(other), func(i, k int) { other[i], other[k] = other[k], other[i] })
		want, err := Pins(l)
		checkPins(t, other, want, err)
		for _, name := range []string{"a", "a-1", "app", "q", "x"} {
			s, _ := Held(l, name)
			checkHeld(t, other, name, s)
		}
	}
	if good < 1000 || good > 1900 || bound < 500 || bound > good-200 {
		t.Errorf("%d lists are accepted, %d have pins", good, bound)
	}
}

// region is a part of the memory.
type region struct{ from, to uintptr }

// regions are the strings of v and its lists, each list with what lies behind it.
func regions(v reflect.Value) []region {
	var l []region
	switch v.Kind() {
	case reflect.String:
		from := uintptr(unsafe.Pointer(unsafe.StringData(v.String())))
		l = append(l, region{from, from + uintptr(v.Len())})
	case reflect.Slice:
		l = append(l, region{v.Pointer(), v.Pointer() + uintptr(v.Cap())*v.Type().Elem().Size()})
		for i := range v.Len() {
			l = append(l, regions(v.Index(i))...)
		}
	case reflect.Struct:
		for i := range v.NumField() {
			l = append(l, regions(v.Field(i))...)
		}
	}
	return slices.DeleteFunc(l, func(x region) bool { return x.from == x.to })
}

// R4 for P17.2: results are new memory.
func TestMemory(t *testing.T) {
	l := base()
	results := []any{strings.Clone("q")}
	for _, list := range [][]api.Manifest{l, l[:1], held("q =1.0.0-a", "q >=1.0.0-a")} {
		for range 2 {
			p, _ := Pins(list)
			results = append(results, p)
			for _, name := range []string{"q", "zip", "none"} {
				s, _ := Held(list, name)
				results = append(results, s)
			}
		}
	}
	own := regions(reflect.ValueOf(l))
	var all []region
	for _, x := range results {
		for _, a := range regions(reflect.ValueOf(x)) {
			for _, b := range slices.Concat(own, all) {
				if a.from < b.to && b.from < a.to {
					t.Fatalf("%v shares memory", x)
				}
			}
			all = append(all, a)
		}
	}
	if len(own) < 50 || len(all) < 50 {
		t.Errorf("%d and %d parts of the memory", len(own), len(all))
	}
}

// R4 for P17.1 and P17.2: arguments stay as they are, with what lies behind their lists,
// and that does not count.
func TestArgument(t *testing.T) {
	for _, change := range []func(l []api.Manifest){
		func(l []api.Manifest) {},
		func(l []api.Manifest) { l[1].Pins[1].Shelf = "side" },
		func(l []api.Manifest) { l[2].Holds[1].Range = "1" },
		func(l []api.Manifest) { l[2].Rec.Name = "app" },
	} {
		l := append(base(), members("behind", "rich")...)
		for i := range l {
			m := &l[i]
			m.Pins = append(m.Pins, api.Pin{Name: "q", Shelf: "behind"})[:len(m.Pins)]
			m.Holds = append(m.Holds, api.Hold{Name: "q", Range: "=9"})[:len(m.Holds)]
			m.Rec.Bars = append(m.Rec.Bars, api.Bar{Name: "behind"})[:len(m.Rec.Bars)]
		}
		change(l)
		said := func() string {
			s := fmt.Sprintf("%+v", l)
			for _, m := range l {
				s += fmt.Sprintf("%+v %+v %+v", m.Pins[:len(m.Pins)+1], m.Holds[:len(m.Holds)+1], m.Rec.Bars[:len(m.Rec.Bars)+1])
			}
			return s
		}
		was := said()
		checkAny(t, l[:4], names...)
		checkAny(t, l[:3], names...)
		checkAny(t, l, names...)
		if now := said(); now != was {
			t.Errorf("the argument became %s", now)
		}
	}
	// An empty list is the same as nil.
	m := api.Manifest{Rec: api.Record{Name: "app", Needs: []api.Need{}, Bars: []api.Bar{}}, Pins: []api.Pin{}, Holds: []api.Hold{}}
	checkGood(t, []api.Manifest{m}, names...)
	checkPins(t, []api.Manifest{m}, nil, api.OK)
}

// R5 for P17.1 and P17.2: several goroutines may call the functions at the same time.
func TestTogether(t *testing.T) {
	l, bad, apart := base(), append(base()[:3], api.Manifest{}), pinned("a:x", "a:y")
	want, _ := pinsOf(l)
	q := heldOf(l, "q")
	wrong := make(chan string)
	for range 8 {
		go func() {
			told := ""
			for range 50 {
				err, at := Check(l)
				fault, place := Check(bad)
				p, _ := Pins(l)
				_, other := Pins(apart)
				s, _ := Held(l, "q")
				if err != api.OK || at != 0 || fault != api.ErrName || place != 3 || !slices.Equal(p, want) || other != api.ErrPin ||
					!set.Same(s, q) || Member(l, "a1") != 3 || Member(bad, "rich") != -1 {
					told = "a result depends on other calls"
				}
			}
			wrong <- told
		}()
	}
	for range 8 {
		if told := <-wrong; told != "" {
			t.Error(told)
		}
	}
}

// great are four members with records of as many bytes as they may have, and with as many
// pins and holds.
func great() []api.Manifest {
	const wide = "=1000.1000.1000-abcdefgh, =1000.1000.1000-abcdefgh, =1000.1000.1000-abcdefgh, =1000.1000.1000-ab"
	var l []api.Manifest
	for i := range 4 {
		m := api.Manifest{Rec: api.Record{Name: fmt.Sprint("abcdefghijklmno", i)}}
		for k := range 8 {
			name := fmt.Sprint("abcdefghijklmno", k)
			m.Rec.Needs = append(m.Rec.Needs, api.Need{Any: slices.Repeat([]api.Wish{{Name: "abcdefghijklmnop", Range: wide}}, 3)})
			m.Rec.Bars = append(m.Rec.Bars, api.Bar{Name: "abcdefghijklmnop", Range: wide})
			m.Pins = append(m.Pins, api.Pin{Name: name, Shelf: name})
			m.Holds = append(m.Holds, api.Hold{Name: name, Range: wide})
		}
		l = append(l, m)
	}
	return l
}

// R1 for P17.1 and P17.2: lists and strings of any length.
func TestLong(t *testing.T) {
	start := time.Now()
	l := great()
	for range 20 {
		checkGood(t, l, "abcdefghijklmno0", "abcdefghijklmno3", "abcdefghijklmno7", "x")
	}
	if s, _ := record.Print(l[0].Rec); len(s) < 3500 {
		t.Errorf("a great record has only %d bytes", len(s))
	}
	text := strings.Repeat("a", 1<<24)
	checkGood(t, base(), text, text[:17])
	checkFault(t, make([]api.Manifest, 1<<20), api.ErrLong, 0)
	checkFault(t, slices.Repeat(base()[1:2], 1<<16), api.ErrLong, 0)
	for i, change := range []func(m *api.Manifest){
		func(m *api.Manifest) { m.Rec.Name = text },
		func(m *api.Manifest) { m.Rec.Needs = make([]api.Need, 1<<20) },
		func(m *api.Manifest) { m.Pins = make([]api.Pin, 1<<20) },
		func(m *api.Manifest) { m.Holds = make([]api.Hold, 1<<20) },
		func(m *api.Manifest) { m.Pins[0].Shelf = text },
		func(m *api.Manifest) { m.Holds[0].Range = text },
	} {
		l := base()
		change(&l[3])
		checkFault(t, l, []api.Errno{api.ErrName, api.ErrLong, api.ErrLong, api.ErrLong, api.ErrPin, api.ErrRange}[i], 3)
	}
	if took := time.Since(start); took > 20*time.Second {
		t.Errorf("long arguments took %v", took)
	}
}

package shelf

import (
	"fmt"
	"maps"
	"math/rand"
	"regexp"
	"slices"
	"strings"
	"testing"
	"time"
	"unsafe"

	"linchpin/api"
	"linchpin/digest"
	"linchpin/record"
	"linchpin/version"
)

var nameForm = regexp.MustCompile(`^[a-z][a-z0-9]*(-[a-z0-9]+)*$`)

// keyOf tells which published version this is: the same for the same Name and the same
// version, and empty if v is not valid.
func keyOf(name string, v api.Version) string {
	s, _, _ := strings.Cut(version.Print(v), "+")
	if s == "" {
		return ""
	}
	return name + " " + s
}

// validOf is a second May.
func validOf(s api.Shelf) bool {
	if len(s.Name) > 16 || !nameForm.MatchString(s.Name) || len(s.Entries) > 64 {
		return false
	}
	keys := map[string]bool{}
	for _, e := range s.Entries {
		text, err := record.Print(e.Rec)
		if err != api.OK || digest.Sum([]byte(text)) != e.Sum {
			return false
		}
		keys[keyOf(e.Rec.Name, e.Rec.V)] = true
	}
	return len(keys) == len(s.Entries)
}

// findOf is a second Find.
func findOf(s api.Shelf, name string, v api.Version) int {
	if validOf(s) && keyOf(name, v) != "" {
		for i, e := range s.Entries {
			if keyOf(e.Rec.Name, e.Rec.V) == keyOf(name, v) {
				return i
			}
		}
	}
	return -1
}

// listOf is a second List.
func listOf(s api.Shelf, name string) []int {
	var l []int
	if !validOf(s) {
		return l
	}
	for i, e := range s.Entries {
		if e.Rec.Name == name {
			at := 0
			for at < len(l) && version.Compare(s.Entries[l[at]].Rec.V, e.Rec.V) < 0 {
				at++
			}
			l = slices.Insert(l, at, i)
		}
	}
	return l
}

// sumOf is a second Sum of a valid shelf.
func sumOf(s api.Shelf) uint64 {
	h := digest.Pair(digest.Sum(nil), digest.Sum([]byte(s.Name)))
	for _, e := range s.Entries {
		h = digest.Pair(h, e.Sum)
		if e.Yanked {
			h = digest.Pair(h, 1)
		} else {
			h = digest.Pair(h, 0)
		}
	}
	return h
}

// grownOf is a second Grown.
func grownOf(a, b api.Shelf) bool {
	if !validOf(a) || !validOf(b) || a.Name != b.Name || len(a.Entries) > len(b.Entries) {
		return false
	}
	for i, e := range a.Entries {
		if recForm(e.Rec) != recForm(b.Entries[i].Rec) {
			return false
		}
	}
	return true
}

// recForm is all fields of r, with nil as an empty list.
func recForm(r api.Record) string {
	s := fmt.Sprintf("%q %d %d %d %q %q", r.Name, r.V.Major, r.V.Minor, r.V.Patch, r.V.Pre, r.V.Build)
	for _, n := range r.Needs {
		s += fmt.Sprintf(" need %q %q", n.When, n.Option)
		for _, w := range n.Any {
			s += fmt.Sprintf(" wish %q %q %q %t", w.Name, w.Range, w.Features, w.Bare)
		}
	}
	for _, b := range r.Bars {
		s += fmt.Sprintf(" bar %q %q %q", b.Name, b.Range, b.When)
	}
	for _, f := range r.Features {
		s += fmt.Sprintf(" feature %q %q", f.Name, f.Of)
	}
	return s
}

// form is all fields of s, with nil as an empty list.
func form(s api.Shelf) string {
	l := []string{fmt.Sprintf("%q", s.Name)}
	for _, e := range s.Entries {
		l = append(l, fmt.Sprintf("%016x %t %s", e.Sum, e.Yanked, recForm(e.Rec)))
	}
	return strings.Join(l, "\n")
}

// none is the form of the zero value.
var none = form(api.Shelf{})

// some is s as a text, shortened.
func some(s api.Shelf) string {
	return fmt.Sprintf("%.600q", form(s))
}

// rec is the record of a text, of which the word package is left out.
func rec(text string) api.Record {
	r, err, at := record.Parse("package " + text + "\n")
	if err != api.OK {
		panic(fmt.Sprintf("%q: %v, %d", text, err, at))
	}
	return r
}

// entry is the entry of a record.
func entry(r api.Record, yanked bool) api.Entry {
	text, err := record.Print(r)
	if err != api.OK {
		panic(err)
	}
	return api.Entry{Rec: r, Sum: digest.Sum([]byte(text)), Yanked: yanked}
}

// of is the shelf main with these records; those whose text begins with a hyphen are
// withdrawn.
func of(texts ...string) api.Shelf {
	s := api.Shelf{Name: "main"}
	for _, text := range texts {
		bare, yanked := strings.CutPrefix(text, "-")
		s.Entries = append(s.Entries, entry(rec(bare), yanked))
	}
	return s
}

// rich are the lines of a record with some of all, behind its first line.
const rich = "\nneed\nany y best,fast bare >=1, <2 || =3.1\nwhen os = linux or arch != x86\noption net" +
	"\nneed\nany z - full *\nany y - bare ^1\nbar old <1\nbar z =1.5\nwhen abi = musl\nfeature all ?net y/best\nfeature none"

// base is a valid shelf that has some of all.
func base() api.Shelf {
	return of("b 1.0.0", "-a 2.0.0"+rich, "a 1.0.0-rc.1+b.7", "a 1.0.0", "-b 1.0.0-0"+rich, "a 0.10.0", "c 9999.9999.9999",
		"a 0.9.0+x")
}

// copied is s with entries of its own; the lists within them are those of s.
func copied(s api.Shelf) api.Shelf {
	return api.Shelf{Name: s.Name, Entries: slices.Clone(s.Entries)}
}

// full is a valid shelf with n entries, of the packages p, q and r.
func full(n int) api.Shelf {
	s := api.Shelf{Name: "main"}
	for i := range n {
		s.Entries = append(s.Entries, entry(rec(fmt.Sprintf("%c 0.%d.%d", 'p'+i%3, i/16, i%16)), i%5 == 0))
	}
	return s
}

// checkPut holds Put against a second one.
func checkPut(t *testing.T, s api.Shelf, r api.Record) {
	t.Helper()
	fault, _ := record.Check(r)
	want, err := none, api.OK
	switch {
	case !validOf(s):
		err = api.ErrArg
	case fault != api.OK:
		err = fault
	case findOf(s, r.Name, r.V) >= 0:
		err = api.ErrTwice
	case len(s.Entries) >= 64:
		err = api.ErrFull
	default:
		more := copied(s)
		more.Entries = append(more.Entries, entry(r, false))
		want = form(more)
	}
	if got, is := Put(s, r); is != err || form(got) != want {
		t.Errorf("Put(%s, %s): %s, %v; want %.600q, %v", some(s), recForm(r), some(got), is, want, err)
	}
}

// checkAt holds Find and Yank against second ones.
func checkAt(t *testing.T, s api.Shelf, name string, v api.Version) {
	t.Helper()
	at := findOf(s, name, v)
	if got := Find(s, name, v); got != at {
		t.Errorf("Find(%s, %.40q, %+v): %d, want %d", some(s), name, v, got, at)
	}
	for _, on := range []bool{false, true} {
		want, err := none, api.OK
		switch {
		case !validOf(s):
			err = api.ErrArg
		case at < 0:
			err = api.ErrNone
		default:
			other := copied(s)
			other.Entries[at].Yanked = on
			want = form(other)
		}
		if got, is := Yank(s, name, v, on); is != err || form(got) != want {
			t.Errorf("Yank(%s, %.40q, %+v, %t): %s, %v; want %.600q, %v", some(s), name, v, on, some(got), is, want, err)
		}
	}
}

// checkGrown holds Grown against a second one.
func checkGrown(t *testing.T, a, b api.Shelf) bool {
	t.Helper()
	want := grownOf(a, b)
	if Grown(a, b) != want {
		t.Errorf("Grown(%s, %s): want %t", some(a), some(b), want)
	}
	return want
}

// checkAny holds all functions against a shelf, and reports whether it is valid.
func checkAny(t *testing.T, s api.Shelf) bool {
	t.Helper()
	valid := validOf(s)
	if May(s) != valid {
		t.Errorf("May(%s): want %t", some(s), valid)
	}
	var sum uint64
	err := api.ErrArg
	if valid {
		sum, err = sumOf(s), api.OK
	}
	if got, is := Sum(s); got != sum || is != err {
		t.Errorf("Sum(%s): %x, %v; want %x, %v", some(s), got, is, sum, err)
	}
	checkGrown(t, s, s)
	checkPut(t, s, rec("free 0.0.0"))
	checkPut(t, s, api.Record{Name: "free", V: api.Version{Pre: "A"}})
	checkAt(t, s, "free", api.Version{})
	names := map[string]bool{"": true, "free": true, "A": true}
	for _, e := range s.Entries[:min(len(s.Entries), 70)] {
		names[e.Rec.Name] = true
		v := e.Rec.V
		for range 2 {
			checkAt(t, s, e.Rec.Name, v)
			checkPut(t, s, api.Record{Name: e.Rec.Name, V: v})
			v.Build = "other" // still the same version
		}
		v.Patch++ // mostly another one
		checkAt(t, s, e.Rec.Name, v)
		checkPut(t, s, api.Record{Name: e.Rec.Name, V: v, Bars: e.Rec.Bars})
	}
	for _, name := range slices.Sorted(maps.Keys(names)) {
		if got, want := List(s, name), listOf(s, name); !slices.Equal(got, want) {
			t.Errorf("List(%s, %q): %v, want %v", some(s), name, got, want)
		}
	}
	return valid
}

// checkBad holds all functions against a shelf that is not valid.
func checkBad(t *testing.T, s api.Shelf) {
	t.Helper()
	if checkAny(t, s) {
		t.Errorf("%s is valid", some(s))
	}
	if _, err := Put(s, api.Record{}); err != api.ErrArg {
		t.Errorf("Put of nothing on %s: %v", some(s), err)
	}
	good := of("free 0.0.0")
	if May(s) || Grown(s, good) || Grown(good, s) || Grown(api.Shelf{Name: s.Name}, s) {
		t.Errorf("%s is taken for a valid one", some(s))
	}
}

// checkGood holds all functions against a valid shelf.
func checkGood(t *testing.T, s api.Shelf) {
	t.Helper()
	if !checkAny(t, s) || !May(s) {
		t.Errorf("%s is not valid", some(s))
	}
}

// P13.1: a Name.
func TestNames(t *testing.T) {
	for _, name := range []string{"a", "main", "a1", "a-b-c", "a-1", "zzzzzzzzzzzzzzzz", "z-2345678901234-"[:15]} {
		s := base()
		s.Name = name
		checkGood(t, s)
		checkGood(t, api.Shelf{Name: name})
	}
	for _, name := range []string{"", "A", "1", "-", "-a", "a-", "a--b", "a b", "a_b", "a\n", " a", "\xff", "é", "zzzzzzzzzzzzzzzzz",
		"a/b", "Main"} {
		s := base()
		s.Name = name
		checkBad(t, s)
		checkBad(t, api.Shelf{Name: name})
	}
}

// P13.1: every error that a record can have makes a shelf not valid, at every place, and
// is what Put returns for that record.
func TestRecords(t *testing.T) {
	many := make([]api.Need, 9)
	wish := func(name, within string, features ...string) []api.Need {
		return []api.Need{{Any: []api.Wish{{Name: name, Range: within, Features: features}}}}
	}
	for _, c := range []struct {
		r   api.Record
		err api.Errno
	}{
		{api.Record{}, api.ErrName},
		{api.Record{Name: "A"}, api.ErrName},
		{api.Record{Name: "x", V: api.Version{Major: -1}}, api.ErrVersion},
		{api.Record{Name: "x", V: api.Version{Patch: 10000}}, api.ErrVersion},
		{api.Record{Name: "x", V: api.Version{Build: "+"}}, api.ErrVersion},
		{api.Record{Name: "x", Needs: many}, api.ErrLong},
		{api.Record{Name: "x", Needs: many[:1]}, api.ErrNone},
		{api.Record{Name: "x", Needs: wish("x", "*")}, api.ErrTwice},
		{api.Record{Name: "x", Needs: wish("y", "1")}, api.ErrRange},
		{api.Record{Name: "x", Needs: wish("y", "*", "F")}, api.ErrFeature},
		{api.Record{Name: "x", Bars: []api.Bar{{Name: "y", Range: "*", When: "os"}}}, api.ErrMark},
		{api.Record{Name: "x", Features: []api.Feature{{Name: "f", Of: []string{"?o"}}}}, api.ErrOption},
		{api.Record{Name: "x", Features: []api.Feature{{Name: "f", Of: []string{"y/f"}}}}, api.ErrNeed},
	} {
		for _, s := range []api.Shelf{{Name: "main"}, base(), full(64)} {
			if got, err := Put(s, c.r); err != c.err || form(got) != none {
				t.Errorf("Put of %s: %s, %v; want %v", recForm(c.r), some(got), err, c.err)
			}
			for at := range s.Entries {
				bad := copied(s)
				bad.Entries[at].Rec = c.r
				if at < 2 || at > 62 {
					checkBad(t, bad)
				} else if May(bad) {
					t.Errorf("%s at %d", recForm(c.r), at)
				}
			}
		}
		sum := digest.Sum(nil)
		checkBad(t, api.Shelf{Name: "main", Entries: []api.Entry{{Rec: c.r}}})
		checkBad(t, api.Shelf{Name: "main", Entries: []api.Entry{{Rec: c.r, Sum: sum}}})
	}
}

// P13.1: the Sum of each entry is that of its record.
func TestEntrySums(t *testing.T) {
	for at := range base().Entries {
		for bit := range 64 {
			s := base()
			s.Entries[at].Sum ^= 1 << bit
			if May(s) {
				t.Errorf("May holds with bit %d of the Sum at %d changed", bit, at)
			}
		}
		s := base()
		s.Entries[at].Sum = 0
		checkBad(t, s)
		s = base()
		s.Entries[at].Rec.V.Build += "b" // the same version, but another text
		checkBad(t, s)
		s = base()
		s.Entries[at].Sum = s.Entries[(at+1)%len(s.Entries)].Sum
		checkBad(t, s)
		s = base()
		s.Entries[at].Yanked = !s.Entries[at].Yanked
		checkGood(t, s)
	}
	for _, text := range []string{"a 1.0.0", "a 1.0.0-rc+b", "b 2.0.0" + rich} {
		s, err := Put(api.Shelf{Name: "main"}, rec(text))
		printed, _ := record.Print(rec(text))
		if err != api.OK || len(s.Entries) != 1 || s.Entries[0].Sum != digest.Sum([]byte(printed)) || s.Entries[0].Yanked {
			t.Errorf("Put of %q: %s, %v", text, some(s), err)
		}
	}
}

// P13.1: no two entries have the same Name and the same version.
func TestTwice(t *testing.T) {
	for _, c := range []struct {
		a, b string
		same bool
	}{
		{"x 1.0.0", "x 1.0.0", true},
		{"x 1.0.0", "x 1.0.0+a", true},
		{"x 1.0.0+b", "x 1.0.0+a", true},
		{"x 1.0.0-rc.1+b", "x 1.0.0-rc.1", true},
		{"x 1.0.0", "x 1.0.0" + rich, true},
		{"x 1.0.0", "-x 1.0.0", true},
		{"-x 1.0.0", "-x 1.0.0+a", true},
		{"x 1.0.0", "w 1.0.0", false},
		{"x 1.0.0", "x-1 1.0.0", false},
		{"x 1.0.0", "xx 1.0.0", false},
		{"x 1.0.0", "x 1.0.1", false},
		{"x 1.0.0", "x 1.1.0", false},
		{"x 1.0.0", "x 2.0.0", false},
		{"x 1.0.0", "x 1.0.0-0", false},
		{"x 1.0.0-a", "x 1.0.0-b", false},
		{"x 1.0.0-a", "x 1.0.0-a.0", false},
		{"x 1.0.0+a", "x 1.0.0-a", false},
		{"x 0.0.0", "x 0.0.0+0", true},
	} {
		a, b := of(c.a).Entries[0], of(c.b).Entries[0]
		for n := range 4 {
			for at := 0; at <= n; at++ {
				one := of("p 1.0.0", "q 1.0.0", "r 1.0.0").Entries[:n]
				s := api.Shelf{Name: "main", Entries: slices.Insert(slices.Clone(one), at, a)}
				checkGood(t, s)
				if got, err := Put(s, b.Rec); (err == api.ErrTwice) != c.same || (err == api.OK) == c.same || (form(got) == none) != c.same {
					t.Errorf("Put of %q behind %q: %v", c.b, c.a, err)
				}
				for to := 0; to <= n+1; to++ {
					two := copied(s)
					two.Entries = slices.Insert(two.Entries, to, b)
					if checkAny(t, two) == c.same {
						t.Errorf("%q beside %q: want %t", c.b, c.a, !c.same)
					}
				}
			}
		}
	}
	// Of many entries, each pair may be the one that is the same.
	for i := range 64 {
		for k := range i {
			s := full(64)
			s.Entries[i] = s.Entries[k]
			if May(s) {
				t.Fatalf("entries %d and %d are the same", k, i)
			}
		}
	}
}

// P13.1: the number of entries; ErrFull is the last of the errors.
func TestNumbers(t *testing.T) {
	for _, n := range []int{0, 1, 2, 62, 63, 64} {
		checkGood(t, full(n))
		s, err := Put(full(n), rec("free 1.0.0"))
		if n < 64 && (err != api.OK || len(s.Entries) != n+1 || s.Entries[n].Rec.Name != "free") || n == 64 && (err != api.ErrFull || form(s) != none) {
			t.Errorf("Put on %d entries: %s, %v", n, some(s), err)
		}
	}
	for _, n := range []int{65, 66, 100, 1000} {
		checkBad(t, full(n))
	}
	checkBad(t, api.Shelf{Name: "main", Entries: make([]api.Entry, 65)})
	for at, e := range full(64).Entries {
		e.Rec.V.Build = "b"
		if _, err := Put(full(64), e.Rec); err != api.ErrTwice {
			t.Errorf("Put of entry %d once more: %v", at, err)
		}
	}
	if _, err := Put(full(64), api.Record{Name: "p"}); err != api.ErrTwice { // its version is 0.0.0
		t.Errorf("Put of p 0.0.0: %v", err)
	}
	if _, err := Put(full(64), api.Record{Name: "p", Bars: []api.Bar{{Name: "p"}}}); err != api.ErrTwice {
		t.Errorf("Put of a record that bars itself: %v", err)
	}
	if _, err := Put(full(65), api.Record{Name: "p"}); err != api.ErrArg {
		t.Errorf("Put on 65 entries: %v", err)
	}
}

// P13.1: errors in their order, also where the later ones apply too.
func TestOrder(t *testing.T) {
	wrong := rec("p 0.0.0" + rich) // on full(64), this is there already
	wrong.Features[0].Name = "F"
	bad := full(64)
	bad.Name = "-"
	for _, c := range []struct {
		s   api.Shelf
		r   api.Record
		err api.Errno
	}{
		{bad, wrong, api.ErrArg},
		{bad, rec("p 0.0.0"), api.ErrArg},
		{bad, rec("free 0.0.0"), api.ErrArg},
		{full(64), wrong, api.ErrFeature},
		{full(63), wrong, api.ErrFeature},
		{full(64), rec("p 0.0.0"), api.ErrTwice},
		{full(63), rec("p 0.0.0"), api.ErrTwice},
		{full(64), rec("free 0.0.0"), api.ErrFull},
		{full(63), rec("free 0.0.0"), api.OK},
	} {
		if s, err := Put(c.s, c.r); err != c.err || (form(s) == none) != (err != api.OK) {
			t.Errorf("Put(%s, %s): %s, %v; want %v", some(c.s), recForm(c.r), some(s), err, c.err)
		}
	}
	for _, name := range []string{"p", "free"} {
		for _, v := range []api.Version{{}, {Pre: "A"}} {
			if s, err := Yank(bad, name, v, true); err != api.ErrArg || form(s) != none {
				t.Errorf("Yank of %s %+v on a bad shelf: %v", name, v, err)
			}
		}
	}
}

// invalid are versions that are not valid, the first ones near 1.0.0.
var invalid = []api.Version{
	{Major: 1, Pre: "."}, {Major: 1, Build: "+"}, {Major: 1, Build: "A"}, {Major: 1, Pre: "01"}, {Major: 1, Patch: -1},
	{Major: 1, Minor: 10000}, {Major: 1 << 40}, {Major: 1, Pre: "123456789"}, {Major: 1, Build: "a.b.c.d.e"}, {Major: -1 << 63},
}

// P13.1: Yank; P13.2: Find. The version is the same one, the others stay.
func TestYank(t *testing.T) {
	s := base()
	for at, e := range s.Entries {
		for _, build := range []string{"", "b.7", "x", "a.b.c.d", e.Rec.V.Build} {
			v := e.Rec.V
			v.Build = build
			if got := Find(s, e.Rec.Name, v); got != at {
				t.Errorf("Find of entry %d: %d", at, got)
			}
			for _, was := range []bool{false, true} {
				for _, on := range []bool{false, true} {
					from, want := base(), base()
					from.Entries[at].Yanked, want.Entries[at].Yanked = was, on
					if got, err := Yank(from, e.Rec.Name, v, on); err != api.OK || form(got) != form(want) {
						t.Errorf("Yank of entry %d from %t to %t: %s, %v", at, was, on, some(got), err)
					}
				}
			}
		}
		for _, v := range invalid {
			checkAt(t, s, e.Rec.Name, v)
			if got, err := Yank(s, e.Rec.Name, v, true); err != api.ErrNone || form(got) != none || Find(s, e.Rec.Name, v) != -1 {
				t.Errorf("Yank or Find of %+v: %s, %v", v, some(got), err)
			}
		}
	}
	one := api.Version{Major: 1}
	for _, name := range []string{"", "x", "A", "aa", "a ", "a\n", "B", "c", "main", "\xff"} {
		if got, err := Yank(s, name, one, true); err != api.ErrNone || form(got) != none || Find(s, name, one) != -1 {
			t.Errorf("Yank or Find of %q: %s, %v", name, some(got), err)
		}
	}
	for _, v := range []api.Version{{}, {Major: 1, Patch: 1}, {Major: 1, Pre: "rc.2"}, {Major: 1, Pre: "rc"}, {Major: 1, Pre: "0"}, {Minor: 9, Pre: "x"}} {
		if got, err := Yank(s, "a", v, true); err != api.ErrNone || form(got) != none || Find(s, "a", v) != -1 {
			t.Errorf("Yank or Find of %+v: %s, %v", v, some(got), err)
		}
	}
	none := api.Shelf{Name: "main"}
	if got, err := Yank(none, "a", one, true); err != api.ErrNone || got.Name != "" || Find(none, "a", one) != -1 || len(List(none, "a")) != 0 {
		t.Errorf("Yank on an empty shelf: %v, %v", got, err)
	}
}

// rising are versions in ascending order.
var rising = []string{
	"0.0.0-0", "0.0.0-a", "0.0.0", "0.0.1+z", "0.2.0", "0.10.0", "1.0.0-0", "1.0.0-2", "1.0.0-10", "1.0.0-10.0", "1.0.0--",
	"1.0.0-a", "1.0.0-a.9", "1.0.0-a.10+a", "1.0.0-a.a", "1.0.0-ab", "1.0.0-b", "1.0.0", "1.0.2", "1.0.10", "1.2.0-rc+b",
	"1.2.0+c", "2.0.0", "10.0.0", "9999.9999.9999-zz", "9999.9999.9999",
}

// P13.2: List gives the entries of a name by their versions, however they were published.
func TestList(t *testing.T) {
	r := rand.New(rand.NewSource(2))
	for range 100 {
		few := r.Perm(len(rising))[:r.Intn(len(rising)+1)]
		s := api.Shelf{Name: "main"}
		where := make([]int, len(rising)) // in s, of each version of the package m, plus one
		for _, i := range few {
			if r.Intn(3) == 0 {
				other := entry(rec([]string{"l ", "n ", "m-1 "}[r.Intn(3)]+rising[i]), r.Intn(2) == 0)
				s.Entries = append(s.Entries, other)
			}
			s.Entries = append(s.Entries, entry(rec("m "+rising[i]), r.Intn(2) == 0))
			where[i] = len(s.Entries)
		}
		var want []int
		for _, n := range where {
			if n > 0 {
				want = append(want, n-1)
			}
		}
		if got := List(s, "m"); !slices.Equal(got, want) {
			t.Fatalf("List of %s: %v, want %v", some(s), got, want)
		}
		checkGood(t, s)
	}
	s := base()
	for name, want := range map[string][]int{"a": {7, 5, 2, 3, 1}, "b": {4, 0}, "c": {6}, "": nil, "d": nil, "A": nil, "y": nil, "main": nil} {
		if got := List(s, name); !slices.Equal(got, want) {
			t.Errorf("List of %q: %v, want %v", name, got, want)
		}
	}
	s.Entries[6].Sum++
	if got := List(s, "a"); got != nil {
		t.Errorf("List of a shelf that is not valid: %v", got)
	}
}

// fields are changes of a record, one for each of its fields, after which it is another
// valid one.
func fields() []func(r *api.Record) {
	return []func(r *api.Record){
		func(r *api.Record) { r.Name = "other" },
		func(r *api.Record) { r.V.Major = 77 },
		func(r *api.Record) { r.V.Minor = 77 },
		func(r *api.Record) { r.V.Patch = 77 },
		func(r *api.Record) { r.V.Pre = "77" },
		func(r *api.Record) { r.V.Build = "77" },
		func(r *api.Record) { r.Needs[1].Any[1].Name = "w" },
		func(r *api.Record) { r.Needs[1].Any[1].Range = "^2" },
		func(r *api.Record) { r.Needs[0].Any[0].Features = []string{"best"} },
		func(r *api.Record) { r.Needs[1].Any[1].Bare = false },
		func(r *api.Record) { r.Needs[1].Any = r.Needs[1].Any[:1] },
		func(r *api.Record) { r.Needs[1].When = "os = a" },
		func(r *api.Record) { r.Needs[1].Option = "more" },
		func(r *api.Record) { r.Needs = r.Needs[:1] },
		func(r *api.Record) { r.Bars[0].Name = "older" },
		func(r *api.Record) { r.Bars[0].Range = "*" },
		func(r *api.Record) { r.Bars[1].When = "" },
		func(r *api.Record) { r.Bars = r.Bars[:1] },
		func(r *api.Record) { r.Features[1].Name = "no" },
		func(r *api.Record) { r.Features[1].Of = []string{"all"} },
		func(r *api.Record) { r.Features = r.Features[:1] },
	}
}

// P13.2: Grown holds for a beginning of the entries, withdrawn or not.
func TestGrown(t *testing.T) {
	whole := base()
	for n := range len(whole.Entries) + 1 {
		for m := range len(whole.Entries) + 1 {
			a := api.Shelf{Name: "main", Entries: slices.Clone(whole.Entries[:n])}
			b := api.Shelf{Name: "main", Entries: slices.Clone(whole.Entries[:m])}
			if checkGrown(t, a, b) != (n <= m) {
				t.Errorf("Grown from %d to %d", n, m)
			}
			for i := range b.Entries {
				b.Entries[i].Yanked = !b.Entries[i].Yanked
				if checkGrown(t, a, b) != (n <= m) {
					t.Errorf("Grown from %d to %d, with %d withdrawn or not", n, m, i)
				}
			}
			b.Name = "maim"
			if Grown(a, b) || Grown(b, a) {
				t.Errorf("Grown from %d to %d under another Name", n, m)
			}
		}
	}
	for i := range whole.Entries {
		for k := range i {
			b := copied(whole)
			b.Entries[i], b.Entries[k] = b.Entries[k], b.Entries[i]
			if Grown(whole, b) || Grown(b, whole) {
				t.Errorf("Grown with entries %d and %d exchanged", i, k)
			}
		}
		less := copied(whole)
		less.Entries = slices.Delete(less.Entries, i, i+1)
		if Grown(whole, less) || checkGrown(t, less, whole) != (i == len(less.Entries)) {
			t.Errorf("Grown without entry %d", i)
		}
		for _, change := range []func(s *api.Shelf){func(s *api.Shelf) { s.Entries[i].Sum++ }, func(s *api.Shelf) { s.Entries[i].Rec.Name = "" }} {
			bad := base()
			change(&bad)
			if Grown(bad, whole) || Grown(whole, bad) || Grown(bad, bad) || Grown(api.Shelf{Name: "main"}, bad) {
				t.Errorf("Grown with entry %d not valid", i)
			}
		}
	}
}

// P13.2: Grown compares each field of each record.
func TestGrownFields(t *testing.T) {
	for at := range 3 {
		for i, change := range fields() {
			for _, sums := range []bool{false, true} {
				a := of("p 1.0.0"+rich, "q 1.0.0"+rich, "r 1.0.0"+rich)
				b := of("p 1.0.0"+rich, "q 1.0.0"+rich, "r 1.0.0"+rich, "s 1.0.0")
				if !Grown(a, b) || Grown(b, a) {
					t.Fatal("Grown by an entry")
				}
				change(&b.Entries[at].Rec)
				if sums {
					b.Entries[at] = entry(b.Entries[at].Rec, false)
				}
				if May(b) != sums || Grown(a, b) {
					t.Errorf("Grown with change %d at %d", i, at)
				}
				b.Entries = b.Entries[:3]
				if Grown(b, a) || Grown(a, b) {
					t.Errorf("Grown with change %d at %d, as many entries", i, at)
				}
			}
		}
	}
}

// P13.2: Sum, by values that another program computed.
func TestSum(t *testing.T) {
	const one = "a 1.0.0"
	const two = "b 0.9.0-rc.1+x\nneed\nany a f full ^1\nwhen os = linux\noption o\nbar c <2\nfeature g ?o a/f"
	for _, c := range []struct {
		s    api.Shelf
		want string
	}{
		{api.Shelf{Name: "x"}, "10d73b868c1d1b4f"},
		{of(), "014ec6b4ca88bee1"},
		{of(one), "ac87db4f1515151c"},
		{of("-" + one), "e282d8f236d3a8e6"},
		{of(one, "-"+two), "5edcba7989772d1f"},
		{of("-"+one, two), "554cbf9d4298b236"},
		{of("-"+two, one), "915f08a83b4d7eb8"},
	} {
		if got, err := Sum(c.s); err != api.OK || digest.Text(got) != c.want {
			t.Errorf("Sum(%s): %s, %v; want %s", some(c.s), digest.Text(got), err, c.want)
		}
	}
}

// P13.2: whatever is changed in a shelf changes its Sum.
func TestSumFields(t *testing.T) {
	texts := []string{"p 1.0.0" + rich, "-q 1.0.0" + rich, "r 1.0.0" + rich}
	sums := map[uint64]bool{}
	add := func(s api.Shelf) {
		t.Helper()
		got, err := Sum(s)
		if err != api.OK || got != sumOf(s) || sums[got] {
			t.Errorf("Sum(%s): %x, %v", some(s), got, err)
		}
		sums[got] = true
	}
	add(of(texts...))
	for n := range texts {
		add(of(texts[:n]...))
	}
	add(of(texts[1], texts[0], texts[2]))
	other := of(texts...)
	other.Name = "maim"
	add(other)
	for at := range texts {
		for _, change := range fields() {
			s := of(texts...)
			change(&s.Entries[at].Rec)
			s.Entries[at] = entry(s.Entries[at].Rec, s.Entries[at].Yanked)
			add(s)
		}
		s := of(texts...)
		s.Entries[at].Yanked = !s.Entries[at].Yanked
		add(s)
	}
}

// pool are records of which random shelves are made; some are the same version.
func pool() []api.Record {
	var l []api.Record
	for _, name := range []string{"a", "b", "a-b"} {
		for _, v := range []string{"1.0.0", "1.0.0+x", "1.0.0-rc", "0.9.0", "0.10.0", "2.0.0"} {
			l = append(l, rec(name+" "+v), rec(name+" "+v+rich))
		}
	}
	return l
}

// P13.1, P13.2, P13.3: published records are never lost.
func TestNeverLost(t *testing.T) {
	r := rand.New(rand.NewSource(3))
	l := pool()
	for round := 0; round < 15 && !t.Failed(); round++ {
		s := api.Shelf{Name: "main"}
		states := []api.Shelf{s}
		for range 20 {
			x := l[r.Intn(len(l))]
			var next api.Shelf
			var err api.Errno
			if r.Intn(3) == 0 {
				next, err = Yank(s, x.Name, x.V, r.Intn(2) == 0)
			} else {
				next, err = Put(s, x)
			}
			checkPut(t, s, x)
			checkAt(t, s, x.Name, x.V)
			if err != api.OK {
				continue
			}
			if !Grown(s, next) || Grown(next, s) != (len(next.Entries) == len(s.Entries)) {
				t.Errorf("from %s to %s", some(s), some(next))
			}
			s = next
			states = append(states, s)
		}
		for i, a := range states {
			checkGood(t, a)
			for k, b := range states {
				if want := i <= k || len(a.Entries) == len(b.Entries); Grown(a, b) != want || checkGrown(t, a, b) != want {
					t.Errorf("Grown from state %d to state %d: want %t", i, k, want)
				}
			}
		}
	}
}

// P13.3: Grown is transitive, also between shelves of different histories.
func TestTransitive(t *testing.T) {
	l := []api.Shelf{{Name: "side"}, {Name: "main"}, {}, {Name: "main", Entries: make([]api.Entry, 1)}}
	texts := []string{"a 1.0.0", "-a 1.0.0", "a 1.0.0+x", "b 1.0.0", "c 1.0.0"}
	for _, x := range texts {
		l = append(l, of(x))
		for _, y := range texts {
			l = append(l, of(x, y))
			for _, z := range texts {
				if s := of(x, y, z); validOf(s) {
					l = append(l, s)
				}
			}
		}
	}
	grown := make([][]bool, len(l))
	for i, a := range l {
		for _, b := range l {
			grown[i] = append(grown[i], checkGrown(t, a, b))
		}
	}
	found := 0
	for i := range l {
		for k := range l {
			for m := range l {
				if grown[i][k] && grown[k][m] {
					found++
					if !Grown(l[i], l[m]) {
						t.Fatalf("Grown is not transitive: %s, %s, %s", some(l[i]), some(l[k]), some(l[m]))
					}
				}
			}
		}
	}
	if found < 100 {
		t.Errorf("of the triples: %d", found)
	}
}

// harm makes a random change to s, after which it is often not valid.
func harm(r *rand.Rand, s *api.Shelf) {
	n := len(s.Entries)
	if n == 0 {
		s.Name = "Main"
		return
	}
	e := &s.Entries[r.Intn(n)]
	switch r.Intn(7) {
	case 0:
		s.Name = []string{"", "a b", "-", "x", "main-2"}[r.Intn(5)]
	case 1:
		e.Sum += uint64(r.Intn(3))
	case 2:
		e.Rec.V.Build = []string{"", "x", "+"}[r.Intn(3)]
	case 3:
		*e = s.Entries[r.Intn(n)]
	case 4:
		e.Rec.Name = []string{"", "a", "b"}[r.Intn(3)]
	case 5:
		s.Entries = append(s.Entries, s.Entries[r.Intn(n)])
	case 6:
		e.Rec.Features = nil
	}
}

// P13.1, P13.2: random shelves, valid and not.
func TestRandom(t *testing.T) {
	r := rand.New(rand.NewSource(4))
	l := pool()
	good, bad := 0, 0
	for i := 0; i < 300 && !t.Failed(); i++ {
		s := api.Shelf{Name: "main"}
		for range r.Intn(12) {
			x := l[r.Intn(len(l))]
			if findOf(s, x.Name, x.V) < 0 {
				s.Entries = append(s.Entries, entry(x, r.Intn(2) == 0))
			}
		}
		checkGood(t, s)
		was := copied(s)
		harm(r, &s)
		checkGrown(t, was, s)
		checkGrown(t, s, was)
		if checkAny(t, s) {
			good++
		} else {
			bad++
		}
	}
	if good < 40 || bad < 80 {
		t.Errorf("of the shelves: %d valid, %d not", good, bad)
	}
}

// region is a part of the memory.
type region struct{ from, to uintptr }

func bytesOf(s string) region {
	from := uintptr(unsafe.Pointer(unsafe.StringData(s)))
	return region{from, from + uintptr(len(s))}
}

func roomOf[T any](l []T) region {
	var x T
	from := uintptr(unsafe.Pointer(unsafe.SliceData(l)))
	return region{from, from + uintptr(cap(l))*unsafe.Sizeof(x)}
}

// regionsOf are all strings and lists of r, each list with what lies behind it.
func regionsOf(r api.Record) []region {
	l := []region{bytesOf(r.Name), bytesOf(r.V.Pre), bytesOf(r.V.Build), roomOf(r.Needs), roomOf(r.Bars), roomOf(r.Features)}
	each := func(texts []string) {
		l = append(l, roomOf(texts))
		for _, s := range texts {
			l = append(l, bytesOf(s))
		}
	}
	for _, n := range r.Needs {
		l = append(l, roomOf(n.Any), bytesOf(n.When), bytesOf(n.Option))
		for _, w := range n.Any {
			l = append(l, bytesOf(w.Name), bytesOf(w.Range))
			each(w.Features)
		}
	}
	for _, b := range r.Bars {
		l = append(l, bytesOf(b.Name), bytesOf(b.Range), bytesOf(b.When))
	}
	for _, f := range r.Features {
		l = append(l, bytesOf(f.Name))
		each(f.Of)
	}
	return l
}

// allOf are all regions of s.
func allOf(s api.Shelf) []region {
	l := []region{bytesOf(s.Name), roomOf(s.Entries)}
	for _, e := range s.Entries {
		l = append(l, regionsOf(e.Rec)...)
	}
	return l
}

// apart reports whether no two regions have a byte in common.
func apart(l []region) bool {
	l = slices.DeleteFunc(slices.Clone(l), func(x region) bool { return x.from == x.to })
	slices.SortFunc(l, func(a, b region) int { return int(int64(a.from) - int64(b.from)) })
	for i := 1; i < len(l); i++ {
		if l[i].from < l[i-1].to {
			return false
		}
	}
	return true
}

// R4 for P13.1 and P13.2: results are new memory, and no two lists of one share any.
func TestMemory(t *testing.T) {
	s, r := base(), rec("free 1.0.0-rc+b"+rich)
	a, _ := Put(s, r)
	b, _ := Put(s, r)
	c, _ := Yank(s, "a", api.Version{Major: 2}, false)
	d, _ := Yank(s, "a", api.Version{Major: 2}, true)
	e, _ := Yank(s, "a", api.Version{Minor: 9}, true)
	if !apart(slices.Concat(allOf(s), regionsOf(r), allOf(a), allOf(b), allOf(c), allOf(d), allOf(e))) {
		t.Error("a result shares memory")
	}
	// The lists of an argument may share memory; those of a result do not.
	twin := entry(rec("twin 1.0.0"+rich), false)
	other := twin
	other.Rec.V.Major = 2
	both := api.Shelf{Name: "main", Entries: []api.Entry{twin, entry(other.Rec, false)}}
	other.Rec.V.Major = 3
	if apart(allOf(both)) {
		t.Error("the argument should share memory")
	}
	a, err := Put(both, other.Rec)
	c, fault := Yank(both, "twin", api.Version{Major: 1}, true)
	if err != api.OK || fault != api.OK || !apart(allOf(a)) || !apart(allOf(c)) {
		t.Errorf("lists of one result share memory: %v, %v", err, fault)
	}
	l, k := List(s, "a"), List(s, "a")
	l[0], l = 9, append(l, 9)
	if !slices.Equal(k, listOf(s, "a")) || !apart([]region{roomOf(l), roomOf(k)}) {
		t.Error("the lists of two calls share memory")
	}
}

// P13.1: what is changed in an argument later does not change a result.
func TestLater(t *testing.T) {
	s, r := of("a 1.0.0"+rich, "-b 1.0.0"+rich), rec("c 1.0.0"+rich)
	put, _ := Put(s, r)
	yanked, _ := Yank(s, "a", api.Version{Major: 1}, true)
	want := form(of("a 1.0.0"+rich, "-b 1.0.0"+rich, "c 1.0.0"+rich))
	wantYanked := form(of("-a 1.0.0"+rich, "-b 1.0.0"+rich))
	for _, change := range fields() {
		change(&s.Entries[0].Rec)
		change(&s.Entries[1].Rec)
		change(&r)
		s.Entries[0].Yanked, s.Entries[1].Sum = true, 7
		if form(put) != want || form(yanked) != wantYanked || !May(put) || !May(yanked) {
			t.Fatalf("the results became %s and %s", some(put), some(yanked))
		}
		s, r = of("a 1.0.0"+rich, "-b 1.0.0"+rich), rec("c 1.0.0"+rich)
		put, _ = Put(s, r)
		yanked, _ = Yank(s, "a", api.Version{Major: 1}, true)
	}
}

// R4 for P13.1 and P13.2: arguments stay as they are, with what lies behind their lists.
func TestArguments(t *testing.T) {
	for n := range len(base().Entries) {
		whole, r := base(), rec("free 1.0.0"+rich)
		behind := whole.Entries[n:]
		for i := range behind {
			behind[i] = api.Entry{Rec: rec("behind 1.0.0"), Sum: 7, Yanked: true}
		}
		r.Needs = append(r.Needs, api.Need{Option: "behind"})[:2]
		r.Features[0].Of = append(r.Features[0].Of, "behind")[:2]
		was, wasRec := form(whole), recForm(r)
		s := api.Shelf{Name: "main", Entries: whole.Entries[:n]}
		other := api.Shelf{Name: "main", Entries: base().Entries[:n]}
		check := func() {
			t.Helper()
			if form(whole) != was || recForm(r) != wasRec || r.Needs[:3][2].Option != "behind" || r.Features[0].Of[:3][2] != "behind" {
				t.Fatalf("of %d entries, the argument became %s", n, some(whole))
			}
		}
		checkGood(t, s)
		check()
		for range 2 {
			checkPut(t, s, r)
			Put(whole, r)
			check()
			for _, e := range base().Entries {
				checkAt(t, s, e.Rec.Name, e.Rec.V)
				Yank(whole, e.Rec.Name, e.Rec.V, true)
				check()
			}
		}
		if !Grown(s, other) || !Grown(other, s) || n > 0 && Grown(s, api.Shelf{Name: "main", Entries: other.Entries[:n-1]}) {
			t.Errorf("Grown of %d entries", n)
		}
		check()
	}
	// What lies behind the entries does not count.
	b := base()
	short := api.Shelf{Name: "main", Entries: b.Entries[:3]}
	if Grown(b, short) || !Grown(short, b) || Find(short, "a", api.Version{Major: 1}) != -1 || len(List(short, "a")) != 2 {
		t.Error("an entry behind the last one counts")
	}
}

// R5 for P13.1 and P13.2: several goroutines may call the functions at the same time.
func TestTogether(t *testing.T) {
	s, r := base(), rec("free 1.0.0"+rich)
	put, _ := Put(s, r)
	yanked, _ := Yank(s, "b", api.Version{Major: 1}, true)
	sum, _ := Sum(s)
	wrong := make(chan string)
	for i := range 8 {
		go func() {
			var told string
			mine := full(i + 1)
			for range 60 {
				a, err := Put(s, r)
				b, fault := Yank(s, "b", api.Version{Major: 1}, true)
				n, bad := Sum(s)
				m, _ := Sum(mine)
				if err != api.OK || fault != api.OK || bad != api.OK || form(a) != form(put) || form(b) != form(yanked) || n != sum || m != sumOf(mine) ||
					!May(s) || !Grown(s, a) || Find(s, "a", api.Version{Major: 1}) != 3 || !slices.Equal(List(s, "b"), []int{4, 0}) {
					told = "a result depends on other calls"
				}
			}
			wrong <- told
		}()
	}
	for range 8 {
		if told := <-wrong; told != "" {
			t.Error(told)
		}
	}
}

// R1 for P13.1 and P13.2: arguments of any length and any bytes.
func TestLong(t *testing.T) {
	start := time.Now()
	checkBad(t, api.Shelf{Name: "main", Entries: make([]api.Entry, 1<<20)})
	checkBad(t, api.Shelf{Entries: make([]api.Entry, 1<<20)})
	many := make([]api.Entry, 0, 1<<16)
	for range cap(many) / 64 {
		many = append(many, full(64).Entries...)
	}
	checkBad(t, api.Shelf{Name: "main", Entries: many})
	for _, b := range []string{"a", "0", " ", "-", ".", "\n", "\x00", "\xff"} {
		long := strings.Repeat(b, 1<<22)
		s := base()
		s.Name = long
		if _, err := Put(s, rec("free 1.0.0")); err != api.ErrArg || May(s) || Grown(s, s) {
			t.Errorf("a Name of many %q", b)
		}
		s = base()
		for _, v := range []api.Version{{Pre: long}, {Build: long}} {
			if _, err := Yank(s, "a", v, true); err != api.ErrNone || Find(s, "a", v) != -1 {
				t.Errorf("a version of many %q", b)
			}
			if _, err := Put(s, api.Record{Name: "a", V: v}); err != api.ErrVersion {
				t.Errorf("Put of a version of many %q: %v", b, err)
			}
		}
		if Find(s, long, api.Version{}) != -1 || len(List(s, long)) != 0 {
			t.Errorf("a package of many %q", b)
		}
		if _, err := Put(s, api.Record{Name: long}); err != api.ErrName {
			t.Errorf("Put of a package of many %q: %v", b, err)
		}
		s.Entries[0].Rec.Bars = []api.Bar{{Name: "y", Range: long}}
		if _, err := Sum(s); err != api.ErrArg || May(s) || len(List(s, "a")) != 0 || Grown(base(), s) {
			t.Errorf("a range of many %q", b)
		}
	}
	if took := time.Since(start); took > 30*time.Second {
		t.Errorf("long arguments took %v", took)
	}
}

package feature

import (
	"fmt"
	"maps"
	"math/rand"
	"regexp"
	"slices"
	"strings"
	"testing"
	"time"
	"unsafe"

	"linchpin/api"
)

// What Item returns for a string of each form.
var (
	wordForm   = regexp.MustCompile(`^[a-z0-9_]{1,12}$`)
	optionForm = regexp.MustCompile(`^\?([a-z0-9_]{1,12})$`)
	pulledForm = regexp.MustCompile(`^([a-z][a-z0-9]*(?:-[a-z0-9]+)*)/([a-z0-9_]{1,12})$`)
)

// itemOf is a second Item.
func itemOf(s string) (int, string, string) {
	if wordForm.MatchString(s) {
		return 1, s, ""
	}
	if m := optionForm.FindStringSubmatch(s); m != nil {
		return 2, m[1], ""
	}
	if m := pulledForm.FindStringSubmatch(s); m != nil && len(m[1]) <= 16 {
		return 3, m[1], m[2]
	}
	return 0, "", ""
}

// rises reports whether l is in strictly ascending order.
func rises(l []string) bool {
	return slices.Equal(l, slices.Sorted(maps.Keys(setOf(l))))
}

// setOf is the set of the elements of l.
func setOf(l []string) map[string]bool {
	set := map[string]bool{}
	for _, s := range l {
		set[s] = true
	}
	return set
}

// namesOf are the Names of l.
func namesOf(l []api.Feature) []string {
	var names []string
	for _, f := range l {
		names = append(names, f.Name)
	}
	return names
}

// validOf is a second May.
func validOf(l []api.Feature) bool {
	names := setOf(append(namesOf(l), "default"))
	if len(l) > 8 || !rises(namesOf(l)) {
		return false
	}
	for _, f := range l {
		if !wordForm.MatchString(f.Name) || len(f.Of) > 6 || !rises(f.Of) {
			return false
		}
		for _, item := range f.Of {
			if kind, word, _ := itemOf(item); kind == 0 || kind == 1 && !names[word] {
				return false
			}
		}
	}
	return true
}

// closeOf is a second Close of a valid list: a feature is on if a feature that is
// asked for leads to it over any number of others.
func closeOf(l []api.Feature, asked []string) (on, options, pulls []string) {
	leads := map[[2]string]bool{}
	names := append(namesOf(l), "default")
	for _, f := range l {
		for _, item := range f.Of {
			leads[[2]string{f.Name, item}] = true
		}
	}
	for _, over := range names {
		for _, a := range names {
			for _, b := range names {
				if leads[[2]string{a, over}] && leads[[2]string{over, b}] {
					leads[[2]string{a, b}] = true
				}
			}
		}
	}
	first, second, third := setOf(asked), map[string]bool{}, map[string]bool{}
	for _, a := range asked {
		for _, b := range names {
			if leads[[2]string{a, b}] {
				first[b] = true
			}
		}
	}
	for _, f := range l {
		for _, item := range f.Of {
			switch {
			case !first[f.Name]:
			case item[0] == '?':
				second[item[1:]] = true
			case strings.Contains(item, "/"):
				third[item] = true
			}
		}
	}
	return slices.Sorted(maps.Keys(first)), slices.Sorted(maps.Keys(second)), slices.Sorted(maps.Keys(third))
}

// of is a feature.
func of(name string, items ...string) api.Feature {
	return api.Feature{Name: name, Of: items}
}

// shown is l, shortened.
func shown(l any) string {
	return fmt.Sprintf("%.300s", fmt.Sprintf("%.100q", l))
}

// checkItem holds Item against itemOf.
func checkItem(t *testing.T, s string) {
	t.Helper()
	kind, a, b := Item(s)
	if wantKind, wantA, wantB := itemOf(s); kind != wantKind || a != wantA || b != wantB {
		t.Errorf("Item(%.60q): %d, %q, %q; want %d, %q, %q", s, kind, a, b, wantKind, wantA, wantB)
	}
}

// checkNot holds May and Close against a list that is not valid.
func checkNot(t *testing.T, l []api.Feature, asked ...string) {
	t.Helper()
	if May(l) {
		t.Errorf("May(%s) is true", shown(l))
	}
	checkError(t, l, asked, api.ErrArg)
}

// checkError holds Close against arguments that it refuses.
func checkError(t *testing.T, l []api.Feature, asked []string, want api.Errno) {
	t.Helper()
	if a, b, c, err := Close(l, asked); err != want || len(a)+len(b)+len(c) > 0 {
		t.Errorf("Close(%s, %s): %q, %q, %q, %v; want %v", shown(l), shown(asked), a, b, c, err, want)
	}
}

// checkMay holds May against validOf, and reports whether l is valid.
func checkMay(t *testing.T, l []api.Feature) bool {
	t.Helper()
	if !validOf(l) {
		checkNot(t, l)
		return false
	}
	if !May(l) {
		t.Errorf("May(%s) is false", shown(l))
	}
	return true
}

// checkLists holds Close against its three lists.
func checkLists(t *testing.T, l []api.Feature, asked, on, options, pulls []string) {
	t.Helper()
	a, b, c, err := Close(l, asked)
	if err != api.OK || !slices.Equal(a, on) || !slices.Equal(b, options) || !slices.Equal(c, pulls) {
		t.Errorf("Close(%s, %s): %q, %q, %q, %v; want %q, %q, %q", shown(l), shown(asked), a, b, c, err, on, options, pulls)
	}
}

// checkClose holds Close of a valid list against closeOf, once and again.
func checkClose(t *testing.T, l []api.Feature, asked []string) {
	t.Helper()
	on, options, pulls := closeOf(l, asked)
	checkLists(t, l, asked, on, options, pulls)
	checkLists(t, l, on, on, options, pulls)
}

// contains reports whether all elements of part are elements of whole.
func contains(whole, part []string) bool {
	set := setOf(whole)
	return !slices.ContainsFunc(part, func(s string) bool { return !set[s] })
}

// P11.1: the forms of some strings, written out.
func TestItemTable(t *testing.T) {
	for _, x := range []struct {
		s    string
		kind int
		a, b string
	}{
		{"a", 1, "a", ""},
		{"0", 1, "0", ""},
		{"_", 1, "_", ""},
		{"default", 1, "default", ""},
		{"tls_1_3", 1, "tls_1_3", ""},
		{"abcdefghijkl", 1, "abcdefghijkl", ""},
		{"?a", 2, "a", ""},
		{"?0", 2, "0", ""},
		{"?_", 2, "_", ""},
		{"?default", 2, "default", ""},
		{"?abcdefghijkl", 2, "abcdefghijkl", ""},
		{"a/a", 3, "a", "a"},
		{"a/0", 3, "a", "0"},
		{"a0/_", 3, "a0", "_"},
		{"left-pad/fast", 3, "left-pad", "fast"},
		{"a-0-b/default", 3, "a-0-b", "default"},
		{"abcdefghijklmnop/abcdefghijkl", 3, "abcdefghijklmnop", "abcdefghijkl"},
		{"", 0, "", ""},
		{"?", 0, "", ""},
		{"??", 0, "", ""},
		{"??a", 0, "", ""},
		{"a?", 0, "", ""},
		{"a?b", 0, "", ""},
		{"? a", 0, "", ""},
		{" ?a", 0, "", ""},
		{"/", 0, "", ""},
		{"//", 0, "", ""},
		{"a/", 0, "", ""},
		{"/a", 0, "", ""},
		{"a//a", 0, "", ""},
		{"a/a/", 0, "", ""},
		{"/a/a", 0, "", ""},
		{"a/a/a", 0, "", ""},
		{"?a/a", 0, "", ""},
		{"a/?a", 0, "", ""},
		{"a?/a", 0, "", ""},
		{"?/a", 0, "", ""},
		{"a/?", 0, "", ""},
		{"?/", 0, "", ""},
		{"a /a", 0, "", ""},
		{"a/ a", 0, "", ""},
		{"0/a", 0, "", ""},
		{"0a/a", 0, "", ""},
		{"_/a", 0, "", ""},
		{"a_b/a", 0, "", ""},
		{"-a/a", 0, "", ""},
		{"a-/a", 0, "", ""},
		{"a--b/a", 0, "", ""},
		{"A/a", 0, "", ""},
		{"a/A", 0, "", ""},
		{"a/a-b", 0, "", ""},
		{"?a-b", 0, "", ""},
		{"a-b", 0, "", ""},
		{"-", 0, "", ""},
		{"A", 0, "", ""},
		{"?A", 0, "", ""},
		{"a b", 0, "", ""},
		{"a ", 0, "", ""},
		{" a", 0, "", ""},
		{"a\n", 0, "", ""},
		{"?a\n", 0, "", ""},
		{"a/a\n", 0, "", ""},
		{"a\n/a", 0, "", ""},
		{"a\x00", 0, "", ""},
		{"a,b", 0, "", ""},
		{"a.b", 0, "", ""},
		{"a\\a", 0, "", ""},
		{"\u00e4", 0, "", ""},
		{"?\u00e4", 0, "", ""},
		{"a/\u00e4", 0, "", ""},
		{"\u00e4/a", 0, "", ""},
		{"\u0430", 0, "", ""},
		{"a\uff0fa", 0, "", ""},
		{"\uff1fa", 0, "", ""},
		{"\xff", 0, "", ""},
		{"a/\xff", 0, "", ""},
		{"abcdefghijklm", 0, "", ""},
		{"?abcdefghijklm", 0, "", ""},
		{"a/abcdefghijklm", 0, "", ""},
		{"abcdefghijklmnopq/a", 0, "", ""},
	} {
		if kind, a, b := Item(x.s); kind != x.kind || a != x.a || b != x.b {
			t.Errorf("Item(%q): %d, %q, %q; want %d, %q, %q", x.s, kind, a, b, x.kind, x.a, x.b)
		}
		checkItem(t, x.s)
	}
}

// P11.1: all strings of up to six bytes out of some.
func TestItemShort(t *testing.T) {
	level, found := []string{""}, map[int]int{}
	for range 6 {
		var longer []string
		for _, s := range level {
			for _, b := range []byte("a0_-?/A\xff") {
				longer = append(longer, s+string([]byte{b}))
			}
		}
		for _, s := range longer {
			checkItem(t, s)
			kind, _, _ := Item(s)
			found[kind]++
		}
		level = longer
	}
	if found[1] < 1000 || found[2] < 300 || found[3] < 100 {
		t.Errorf("of each form: %v", found)
	}
}

// P11.1: every byte at every place of an item, also one more and one less.
func TestItemBytes(t *testing.T) {
	for _, s := range []string{"a", "ab_9", "abcdefghijkl", "?a", "?ab_9", "?abcdefghijkl", "a/a", "a-b/c_9",
		"abcdefgh-jklmnop/abcdefghijkl", "abcdefghijklmnop/a", "a/abcdefghijkl"} {
		for at := range len(s) + 1 {
			if at < len(s) {
				checkItem(t, s[:at]+s[at+1:])
				checkItem(t, s[:at])
				checkItem(t, s[at:])
			}
			for b := range 256 {
				c := string([]byte{byte(b)})
				checkItem(t, s[:at]+c+s[at:])
				if at < len(s) {
					checkItem(t, s[:at]+c+s[at+1:])
				}
			}
		}
	}
}

// P11.1: how long the parts of an item may be.
func TestItemLengths(t *testing.T) {
	for m := range 40 {
		name := strings.Repeat("n", m)
		for n := range 40 {
			word := strings.Repeat("w", n)
			want := 0
			if 1 <= m && m <= 16 && 1 <= n && n <= 12 {
				want = 3
			}
			if kind, _, _ := Item(name + "/" + word); kind != want {
				t.Errorf("Item of %d bytes and %d bytes: %d", m, n, kind)
			}
		}
		for kind, s := range map[int]string{1: name, 2: "?" + name} {
			want := 0
			if 1 <= m && m <= 12 {
				want = kind
			}
			if got, _, _ := Item(s); got != want {
				t.Errorf("Item(%q): %d, not %d", s, got, want)
			}
		}
	}
}

// P11.1: some lists, written out.
func TestMayTable(t *testing.T) {
	for _, l := range [][]api.Feature{
		nil,
		{},
		{of("a")},
		{of("default")},
		{of("0"), of("_"), of("a")},
		{of("a"), of("aa"), of("ab"), of("b")},
		{of("abcdefghijkl", "abcdefghijkl")},
		{of("a", "a")},
		{of("a", "default")},
		{of("default", "default")},
		{of("a"), of("default", "a")},
		{of("a", "b"), of("b", "a")},
		{of("a", "b", "c"), of("b"), of("c", "a")},
		{of("a", "?a"), of("b", "?a")},
		{of("a", "?none", "none/none")},
		{of("a", "a-b/c", "a/b", "ab/c")},
		{of("a", "?0", "?_", "?a", "a", "a/a")},
		{of("9", "9", "?9", "a/9")},
		{of("a", "?default", "default", "default/default")},
	} {
		if !May(l) || !validOf(l) {
			t.Errorf("May(%q) is false", l)
		}
	}
	for _, l := range [][]api.Feature{
		{of("")},
		{of("A")},
		{of("a-b")},
		{of("?a")},
		{of("a/b")},
		{of("a ")},
		{of("\u00e4")},
		{of("\xff")},
		{of("abcdefghijklm")},
		{of("a"), of("")},
		{of(""), of("a")},
		{of("a"), of("B")},
		{of("b"), of("a")},
		{of("a"), of("a")},
		{of("default"), of("default")},
		{of("ab"), of("a")},
		{of("a"), of("_")},
		{of("a"), of("0")},
		{of("a"), of("c"), of("b")},
		{of("b"), of("c"), of("a")},
		{of("a"), of("b"), of("a")},
		{of("a"), of("b"), of("b")},
		{of("a", "b")},
		{of("a", "c"), of("b")},
		{of("a"), of("b", "c")},
		{of("a", "A")},
		{of("a", "")},
		{of("a", "", "?b")},
		{of("a", "?b", "")},
		{of("a", "a", "a")},
		{of("a", "?b", "?b")},
		{of("a", "b/b", "b/b")},
		{of("a", "?c", "?b")},
		{of("a", "c/a", "b/a")},
		{of("a", "b/b", "b/a")},
		{of("a", "a", "?a")},
		{of("a", "a/b", "a-b/c")},
		{of("a", "a/b", "a")},
		{of("a", "?a", "?c", "?b")},
		{of("a", "?a", "?b", "?a")},
		{of("a", "?a", "x")},
		{of("a", "a", "x")},
		{of("a", "?A")},
		{of("a", "?")},
		{of("a", "??a")},
		{of("a", "x/")},
		{of("a", "/x")},
		{of("a", "x/y/z")},
		{of("a", "defaults")},
		{of("a", "Default")},
		{of("a", "a\n")},
		{of("a", "\xff")},
		{of("default", "x")},
		{of("default", "?a"), of("a")},
		{of("a"), of("b"), of("c", "?b", "?a")},
		{{Name: "", Of: []string{"default"}}, of("a")},
	} {
		if validOf(l) {
			t.Errorf("%q is valid", l)
		}
		for _, asked := range [][]string{nil, {"a"}, {"default"}, {"none"}, {""}} {
			checkNot(t, l, asked...)
		}
	}
}

// P11.1: how many features and items there may be.
func TestNumbers(t *testing.T) {
	for n := range 40 {
		var l []api.Feature
		for i := range n {
			l = append(l, of(fmt.Sprintf("f%02d", i)))
		}
		if May(l) != (n <= 8) {
			t.Errorf("May of %d features is not %v", n, n <= 8)
		}
		checkMay(t, l)
		for at := range min(n, 8) {
			few := slices.Clone(l[:min(n, 8)])
			for m := range 40 {
				if May(few) != (m <= 6) {
					t.Errorf("May of %d items is not %v", m, m <= 6)
				}
				checkMay(t, few)
				few[at].Of = append(few[at].Of, fmt.Sprintf("?%02d", m))
			}
		}
	}
	var full []api.Feature
	for _, name := range []string{"a", "b", "c", "d", "e", "f", "g", "h"} {
		full = append(full, of(name, "?o", "a", "default", "g", "h", "p/q"))
	}
	if !May(full) {
		t.Error("eight features of six items")
	}
	checkClose(t, full, []string{"d"})
	checkLists(t, full, []string{"d"}, []string{"a", "d", "default", "g", "h"}, []string{"o"}, []string{"p/q"})
	checkNot(t, append(slices.Clone(full), of("i")), "a")
	full[7].Of = append(full[7].Of, "p/r")
	checkNot(t, full, "a")
}

// P11.1: the names of a valid list with one byte changed, left out or put in.
func TestNamesBytes(t *testing.T) {
	l := []api.Feature{of("ab", "?x"), of("abcdefghijkl"), of("b_9", "b_9"), of("default")}
	for i, f := range l {
		for at := range len(f.Name) + 1 {
			for b := range 256 {
				c := string([]byte{byte(b)})
				other := slices.Clone(l)
				other[i].Name = f.Name[:at] + c + f.Name[at:]
				checkMay(t, other)
				if at == len(f.Name) {
					continue
				}
				other[i].Name = f.Name[:at] + c + f.Name[at+1:]
				checkMay(t, other)
				other[i].Name = f.Name[:at] + f.Name[at+1:]
				checkMay(t, other)
			}
		}
	}
}

// P11.1: all lists of up to three features with some names and items.
func TestMayAll(t *testing.T) {
	var all []api.Feature
	for _, name := range []string{"a", "b", "default", ""} {
		for _, items := range [][]string{nil, {"a"}, {"b"}, {"default"}, {"?b"}, {"b/a"}, {"?b", "a"}, {"a", "?b"},
			{"a", "b"}, {"a", "a"}, {"a", "a/b"}, {""}} {
			all = append(all, of(name, items...))
		}
	}
	valid := 0
	for _, f := range all {
		for _, g := range all {
			for _, l := range [][]api.Feature{{f}, {f, g}, {f, g, of("c", "b")}, {of("_", "default"), f, g}} {
				if checkMay(t, l) {
					valid++
				}
			}
		}
	}
	if valid < 700 {
		t.Errorf("only %d lists are valid", valid)
	}
}

// some is a random list of features, often a valid one.
func some(r *rand.Rand) []api.Feature {
	names := []string{"0", "_", "a", "aa", "ab", "b", "c", "d", "default", "e", "zip"}
	items := append([]string{"?0", "?a", "?ab", "?default", "?zip", "a-b/c", "a/b", "ab/c", "zip/a", "zip/default"}, names...)
	if r.Intn(8) == 0 {
		names = append(names, "A", "", "a-b", "?a")
		items = append(items, "A", "", "a-b", "?", "a/", "/a", "a/b/c", "?a/b", "none", "abcdefghijklm")
	}
	var l []api.Feature
	for _, i := range r.Perm(len(names))[:r.Intn(9)] {
		l = append(l, of(names[i]))
	}
	most := 1 + r.Intn(6)
	for i := range l {
		for _, k := range r.Perm(len(items))[:r.Intn(most+1)] {
			kind, word, _ := itemOf(items[k])
			if kind != 1 || word == "default" || Find(l, word) >= 0 || r.Intn(100) == 0 {
				l[i].Of = append(l[i].Of, items[k])
			}
		}
		slices.Sort(l[i].Of)
	}
	slices.SortFunc(l, func(a, b api.Feature) int { return strings.Compare(a.Name, b.Name) })
	return l
}

// harm makes one change to l, after which it is mostly not valid.
func harm(r *rand.Rand, l []api.Feature) {
	i, j := r.Intn(len(l)), r.Intn(len(l))
	f := &l[i]
	switch r.Intn(6) {
	case 0:
		l[i], l[j] = l[j], l[i]
	case 1:
		l[i].Name = l[j].Name
	case 2:
		f.Name += "\x00"
	case 3:
		slices.Reverse(f.Of)
	case 4:
		if len(f.Of) > 0 {
			f.Of[r.Intn(len(f.Of))] = "x"
		}
	case 5:
		if len(f.Of) > 0 {
			f.Of = append(f.Of, f.Of[len(f.Of)-1])
		}
	}
}

// P11.1, P11.2, P11.3: random lists, valid and not; random features asked for.
func TestRandom(t *testing.T) {
	r := rand.New(rand.NewSource(1))
	valid, refused := 0, 0
	for range 30000 {
		l := some(r)
		for _, harmed := range []bool{false, true} {
			if harmed && len(l) > 0 {
				harm(r, l)
			}
			if !checkMay(t, l) {
				refused++
				continue
			}
			valid++
			names := append(namesOf(l), "default", "default")
			var asked []string
			for range r.Intn(6) {
				asked = append(asked, names[r.Intn(len(names))])
			}
			checkClose(t, l, asked)
			checkMore(t, l, asked, names[r.Intn(len(names))])
		}
	}
	if valid < 20000 || refused < 20000 {
		t.Errorf("%d are valid, %d are not", valid, refused)
	}
}

// checkMore checks that Close loses nothing if more is asked for.
func checkMore(t *testing.T, l []api.Feature, asked []string, more string) {
	t.Helper()
	a, b, c, err := Close(l, asked)
	for at := range len(asked) + 1 {
		d, e, f, other := Close(l, slices.Insert(slices.Clone(asked), at, more))
		if err != api.OK || other != api.OK || !contains(d, a) || !contains(e, b) || !contains(f, c) || !slices.Contains(d, more) {
			t.Errorf("Close(%q, %q): %q, %q, %q; with %q: %q, %q, %q", l, asked, a, b, c, more, d, e, f)
		}
	}
}

// P11.1: the first feature of a name, also in a list that is not valid.
func TestFind(t *testing.T) {
	l := []api.Feature{of("b", "c"), of("", "x"), of("a"), of("b"), of("a b\xff"), of(""), of("default"), of("c\x00"), of("a")}
	for name, want := range map[string]int{"b": 0, "": 1, "a": 2, "a b\xff": 4, "default": 6, "c\x00": 7,
		"c": -1, "x": -1, "B": -1, "a b": -1, "a\x00": -1, "ab": -1, "?b": -1, "def": -1, "\xff": -1} {
		if at := Find(l, name); at != want {
			t.Errorf("Find of %q: %d, not %d", name, at, want)
		}
	}
	for _, name := range []string{"", "a", "default"} {
		if at := Find(nil, name); at != -1 {
			t.Errorf("Find of %q in nothing: %d", name, at)
		}
	}
	if at := Find([]api.Feature{of("a", "default"), of("b", "default")}, "default"); at != -1 {
		t.Errorf("Find of default where it is an item only: %d", at)
	}
	var many []api.Feature
	for i := range 1000 {
		many = append(many, of(fmt.Sprint(i%500)))
	}
	for i := range 500 {
		if at := Find(many, fmt.Sprint(i)); at != i {
			t.Errorf("Find of %d: %d", i, at)
		}
	}
}

// P11.2: what some features turn on, written out.
func TestCloseTable(t *testing.T) {
	l := []api.Feature{
		of("all", "default", "net", "zip"),
		of("base"),
		of("default", "?log", "base"),
		of("net", "?tls", "http-lib/fast", "http/fast"),
		of("self", "?log", "self"),
		of("zip", "?gz", "gz-lib/best", "net", "self"),
	}
	type lists [3][]string
	for _, x := range []struct {
		asked []string
		want  lists
	}{
		{nil, lists{}},
		{[]string{}, lists{}},
		{[]string{"base"}, lists{{"base"}}},
		{[]string{"base", "base", "base"}, lists{{"base"}}},
		{[]string{"default"}, lists{{"base", "default"}, {"log"}}},
		{[]string{"self"}, lists{{"self"}, {"log"}}},
		{[]string{"self", "default"}, lists{{"base", "default", "self"}, {"log"}}},
		{[]string{"net"}, lists{{"net"}, {"tls"}, {"http-lib/fast", "http/fast"}}},
		{[]string{"zip"}, lists{{"net", "self", "zip"}, {"gz", "log", "tls"}, {"gz-lib/best", "http-lib/fast", "http/fast"}}},
		{[]string{"zip", "base"}, lists{{"base", "net", "self", "zip"}, {"gz", "log", "tls"}, {"gz-lib/best", "http-lib/fast", "http/fast"}}},
		{[]string{"all"}, lists{{"all", "base", "default", "net", "self", "zip"}, {"gz", "log", "tls"}, {"gz-lib/best", "http-lib/fast", "http/fast"}}},
		{[]string{"zip", "all", "zip", "default"}, lists{{"all", "base", "default", "net", "self", "zip"}, {"gz", "log", "tls"}, {"gz-lib/best", "http-lib/fast", "http/fast"}}},
	} {
		checkLists(t, l, x.asked, x.want[0], x.want[1], x.want[2])
		checkClose(t, l, x.asked)
	}
	for _, x := range []struct {
		l     []api.Feature
		asked string
		want  lists
	}{
		{nil, "default", lists{{"default"}}},
		{[]api.Feature{of("a", "?x")}, "default", lists{{"default"}}},
		{[]api.Feature{of("a", "default")}, "a", lists{{"a", "default"}}},
		{[]api.Feature{of("default")}, "default", lists{{"default"}}},
		{[]api.Feature{of("default", "default")}, "default", lists{{"default"}}},
		{[]api.Feature{of("default", "?x")}, "default", lists{{"default"}, {"x"}}},
		{[]api.Feature{of("a", "default"), of("default", "?x", "x/x")}, "a", lists{{"a", "default"}, {"x"}, {"x/x"}}},
		{[]api.Feature{of("a", "?a", "a/a")}, "a", lists{{"a"}, {"a"}, {"a/a"}}},
		// An option and a pulled feature turn on no feature of the list.
		{[]api.Feature{of("a", "?b", "b/b"), of("b", "?c", "c/c")}, "a", lists{{"a"}, {"b"}, {"b/b"}}},
		{[]api.Feature{of("a", "?default", "default/default"), of("default", "?c")}, "a", lists{{"a"}, {"default"}, {"default/default"}}},
		// The same option and the same pulled feature of two features.
		{[]api.Feature{of("a", "?o", "b", "x/y"), of("b", "?o", "x/y")}, "a", lists{{"a", "b"}, {"o"}, {"x/y"}}},
		{[]api.Feature{of("a", "?z", "b", "x/z"), of("b", "?a", "?z", "a/z", "x-y/z")}, "a",
			lists{{"a", "b"}, {"a", "z"}, {"a/z", "x-y/z", "x/z"}}},
		// The order of bytes, not that of letters.
		{[]api.Feature{of("0", "?a", "a", "a/a"), of("_", "?0", "?_", "a-a/a", "a0/a"), of("a", "_")}, "0",
			lists{{"0", "_", "a"}, {"0", "_", "a"}, {"a-a/a", "a/a", "a0/a"}}},
	} {
		checkLists(t, x.l, []string{x.asked}, x.want[0], x.want[1], x.want[2])
		checkClose(t, x.l, []string{x.asked})
	}
}

// P11.2: which error Close returns.
func TestCloseErrors(t *testing.T) {
	l := []api.Feature{of("a", "?x", "b", "y/z"), of("b")}
	bad := []string{"", "x", "?x", "y", "z", "y/z", "A", "a ", " a", "ab", "a\x00", "a\n", "Default", "default ", "?a", "a/b",
		"a,b", "\xff", strings.Repeat("a", 1<<20)}
	for _, s := range bad {
		checkError(t, l, []string{s}, api.ErrFeature)
		checkError(t, nil, []string{s}, api.ErrFeature)
		good := []string{"a", "b", "default", "b"}
		for at := range len(good) + 1 {
			checkError(t, l, slices.Insert(slices.Clone(good), at, s), api.ErrFeature)
			checkError(t, l, slices.Insert(slices.Clone(good), at, s, "none"), api.ErrFeature)
		}
		checkError(t, []api.Feature{of("b"), of("a")}, []string{s}, api.ErrArg)
	}
	checkError(t, nil, []string{"a"}, api.ErrFeature)
	checkError(t, []api.Feature{of("b")}, []string{"a"}, api.ErrFeature)
	checkError(t, []api.Feature{of("a", "x")}, []string{"a"}, api.ErrArg)
	checkError(t, []api.Feature{of("a"), of("b", "x")}, []string{"a"}, api.ErrArg)
	checkError(t, []api.Feature{of("A")}, []string{"A"}, api.ErrArg)
	checkError(t, []api.Feature{of("")}, []string{""}, api.ErrArg)
	checkError(t, []api.Feature{of("a"), of("a")}, nil, api.ErrArg)
	checkError(t, make([]api.Feature, 9), nil, api.ErrArg)
}

// graph is a list of features with these names, of which each names those whose bits
// follow in bits, and has an option and a pulled feature of its own.
func graph(names, others []string, bits int) []api.Feature {
	var l []api.Feature
	for _, name := range names {
		f := of(name, "?"+name, "p/"+name)
		for _, other := range others {
			if bits&1 == 1 {
				f.Of = append(f.Of, other)
			}
			bits >>= 1
		}
		slices.Sort(f.Of)
		l = append(l, f)
	}
	return l
}

// P11.2, P11.3: all ways in which three features can name each other and `default`,
// which is one of them or is not.
func TestCloseGraphs(t *testing.T) {
	for _, x := range []struct{ names, others []string }{
		{[]string{"a", "b", "c"}, []string{"a", "b", "c", "default"}},
		{[]string{"a", "b", "default"}, []string{"a", "b", "default"}},
		{[]string{"default", "x", "y"}, []string{"default", "x", "y"}},
	} {
		for bits := range 1 << (len(x.names) * len(x.others)) {
			l := graph(x.names, x.others, bits)
			if !May(l) {
				t.Fatalf("May(%q) is false", l)
			}
			checkClose(t, l, nil)
			for _, a := range x.others {
				checkClose(t, l, []string{a})
				for _, b := range x.others {
					checkClose(t, l, []string{a, b})
				}
				checkMore(t, l, []string{a}, x.others[bits%len(x.others)])
			}
			checkClose(t, l, append(slices.Clone(x.others), x.others...))
		}
	}
}

// P11.2, P11.3: as many features as there may be, one naming the next, in every order.
func TestCloseChains(t *testing.T) {
	names := []string{"a", "b", "c", "d", "e", "f", "g", "h"}
	r := rand.New(rand.NewSource(2))
	for range 2000 {
		l := make([]api.Feature, len(names))
		order := r.Perm(len(names))
		for i, at := range order {
			next := "default"
			if i+1 < len(order) {
				next = names[order[i+1]]
			}
			l[at] = of(names[at], "?"+names[at], next, "z/"+names[at])
		}
		for i, at := range order {
			on, options, pulls := []string{"default"}, []string(nil), []string(nil)
			for _, k := range order[i:] {
				on = append(on, names[k])
				options = append(options, names[k])
				pulls = append(pulls, "z/"+names[k])
			}
			slices.Sort(on)
			slices.Sort(options)
			slices.Sort(pulls)
			checkLists(t, l, []string{names[at]}, on, options, pulls)
			checkClose(t, l, []string{names[at]})
		}
		last := &l[order[len(order)-1]]
		last.Of[1] = names[order[0]] // the chain becomes a ring
		for _, name := range names {
			checkLists(t, l, []string{name}, names, names,
				[]string{"z/a", "z/b", "z/c", "z/d", "z/e", "z/f", "z/g", "z/h"})
		}
	}
}

// apart reports whether no two of the texts share memory.
func apart(texts []string) bool {
	for i, a := range texts {
		for _, b := range texts[:i] {
			if a == "" || b == "" {
				continue
			}
			from, other := uintptr(unsafe.Pointer(unsafe.StringData(a))), uintptr(unsafe.Pointer(unsafe.StringData(b)))
			if from < other+uintptr(len(b)) && other < from+uintptr(len(a)) {
				return false
			}
		}
	}
	return true
}

// R4 for P11.1 and P11.2: results are new memory.
func TestMemory(t *testing.T) {
	var texts []string
	fresh := func(s string) string {
		texts = append(texts, strings.Clone(s))
		return texts[len(texts)-1]
	}
	for _, s := range []string{"word", "?word", "name/word", "w", "?w", "n/w", "default"} {
		s = fresh(s)
		for range 2 {
			_, a, b := Item(s)
			texts = append(texts, a, b)
		}
	}
	l := []api.Feature{
		of(fresh("abc"), fresh("?def"), fresh("def"), fresh("default"), fresh("z/def")),
		of(fresh("def"), fresh("?abc"), fresh("?def"), fresh("abc"), fresh("z/def")),
	}
	asked := []string{fresh("abc"), fresh("default"), fresh("abc")}
	for range 2 {
		a, b, c, err := Close(l, asked)
		if err != api.OK || len(a) != 3 || len(b) != 2 || len(c) != 1 {
			t.Fatalf("Close: %q, %q, %q, %v", a, b, c, err)
		}
		texts = slices.Concat(texts, a, b, c)
	}
	if !apart(texts) {
		t.Error("two texts share memory")
	}
	_, b, c, _ := Close(l, asked)
	a, other, pulls, _ := Close(l, asked)
	wasB, wasC := slices.Clone(b), slices.Clone(c)
	for _, list := range [][]string{a, other, pulls} {
		list = append(list, "more")
		for i := range list[:cap(list)] {
			list[:cap(list)][i] = "changed"
		}
	}
	if !slices.Equal(b, wasB) || !slices.Equal(c, wasC) {
		t.Error("two lists share memory")
	}
	for _, list := range [][]string{a, b, c} {
		for i := range list[:cap(list)] {
			list[:cap(list)][i] = "changed"
		}
	}
	checkClose(t, l, asked)
}

// R4 for P11.1 and P11.2: arguments stay as they are, with what lies behind them.
func TestArguments(t *testing.T) {
	items := []string{"?o", "b", "x/y", "behind", "?behind"}
	others := []string{"?p", "a", "behind"}
	l := []api.Feature{of("a", items[:3]...), of("b", others[:2]...), of("behind", "A")}
	asked := []string{"b", "a", "b", "behind", "a"}
	check := func() {
		t.Helper()
		want := []api.Feature{of("a", "?o", "b", "x/y"), of("b", "?p", "a"), of("behind", "A")}
		same := func(f, g api.Feature) bool { return f.Name == g.Name && slices.Equal(f.Of, g.Of) }
		if !slices.EqualFunc(l, want, same) || cap(l[0].Of) != 5 || cap(l[1].Of) != 3 ||
			!slices.Equal(items, []string{"?o", "b", "x/y", "behind", "?behind"}) ||
			!slices.Equal(others, []string{"?p", "a", "behind"}) ||
			!slices.Equal(asked, []string{"b", "a", "b", "behind", "a"}) {
			t.Fatalf("the arguments became %q, %q, %q, %q", l, items, others, asked)
		}
	}
	for range 3 {
		if !May(l[:2]) || May(l) || Find(l[:2], "b") != 1 || Find(l[:2], "behind") != -1 {
			t.Error("May or Find looks behind the list")
		}
		check()
		a, b, c, err := Close(l[:2], asked[:3])
		if err != api.OK {
			t.Error(err)
		}
		for _, list := range [][]string{a, b, c} {
			for i := range list[:cap(list)] {
				list[:cap(list)][i] = "changed"
			}
		}
		check()
		checkError(t, l[:2], asked, api.ErrFeature)
		checkError(t, l, asked[:3], api.ErrArg)
		check()
	}
	// A later change of the arguments does not change a result.
	a, b, c, _ := Close(l[:2], asked[:3])
	items[0], items[1], items[2], asked[0], l[0].Name = "?x", "a", "x/z", "a", "c"
	if !slices.Equal(a, []string{"a", "b"}) || !slices.Equal(b, []string{"o", "p"}) || !slices.Equal(c, []string{"x/y"}) {
		t.Errorf("the result became %q, %q, %q", a, b, c)
	}
}

// R5 for P11.1 and P11.2: results do not depend on other calls or on the order of a
// map, and several goroutines may call the functions at the same time.
func TestTogether(t *testing.T) {
	l := []api.Feature{of("a", "?o", "b", "x/y"), of("b", "?n", "?p", "c", "w/y"), of("c", "?m", "a", "x-y/z"), of("d", "?d", "d/d")}
	asked := []string{"default", "c"}
	wrong := make(chan string)
	for range 8 {
		go func() {
			var told string
			for range 1000 {
				kind, name, word := Item("x-y/z")
				a, b, c, err := Close(l, asked)
				if kind != 3 || name != "x-y" || word != "z" || !May(l) || Find(l, "d") != 3 || err != api.OK ||
					!slices.Equal(a, []string{"a", "b", "c", "default"}) || !slices.Equal(b, []string{"m", "n", "o", "p"}) ||
					!slices.Equal(c, []string{"w/y", "x-y/z", "x/y"}) {
					told = "a result depends on other calls"
				}
			}
			wrong <- told
		}()
	}
	for range 8 {
		if told := <-wrong; told != "" {
			t.Error(told)
		}
	}
}

// R1 for P11.1 and P11.2: arguments of any length and any bytes.
func TestLong(t *testing.T) {
	start := time.Now()
	for _, x := range []string{"a", "?", "/", "a/", "-", "a-", "\x00", "\xff"} {
		long := strings.Repeat(x, 1<<23)
		for _, s := range []string{long, "?" + long, long + "/a", "a/" + long, long + "/" + long} {
			if kind, a, b := Item(s); kind != 0 || a != "" || b != "" {
				t.Errorf("Item of many %q: %d, %.20q, %.20q", x, kind, a, b)
			}
		}
		checkNot(t, []api.Feature{of(long)}, long)
		checkNot(t, []api.Feature{of("a", long)}, long)
		checkNot(t, []api.Feature{of("a", slices.Repeat([]string{long}, 7)...)}, long)
		checkError(t, []api.Feature{of("a")}, slices.Repeat([]string{long}, 1000), api.ErrFeature)
	}
	checkNot(t, make([]api.Feature, 1<<22))
	checkNot(t, []api.Feature{of("a", make([]string, 1<<22)...)})
	if Find(make([]api.Feature, 1<<22), "a") != -1 || Find(make([]api.Feature, 1<<22), "") != 0 {
		t.Error("Find in a long list")
	}
	l := []api.Feature{of("a", "?x", "b"), of("b", "c", "x/y"), of("c", "a")}
	asked := slices.Repeat([]string{"b", "default"}, 1<<20)
	checkLists(t, l, asked, []string{"a", "b", "c", "default"}, []string{"x"}, []string{"x/y"})
	checkError(t, l, append(asked, "d"), api.ErrFeature)
	r := rand.New(rand.NewSource(3))
	for i := 0; i < 300000 && !t.Failed(); i++ {
		b := make([]byte, r.Intn(34))
		for i := range b {
			b[i] = "ab0_-?/A\xff"[min(r.Intn(40)/4, 8)]
		}
		checkItem(t, string(b))
	}
	if d := time.Since(start); d > 20*time.Second {
		t.Errorf("that took %v", d)
	}
}

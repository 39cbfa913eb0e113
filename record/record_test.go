package record

import (
	"fmt"
	"math"
	"math/rand"
	"regexp"
	"slices"
	"strings"
	"testing"
	"time"
	"unsafe"

	"linchpin/api"
	"linchpin/digest"
	"linchpin/mark"
	"linchpin/scope"
	"linchpin/version"
)

// What names, words and items look like.
var (
	nameForm   = regexp.MustCompile(`^[a-z][a-z0-9]*(-[a-z0-9]+)*$`)
	wordForm   = regexp.MustCompile(`^[a-z0-9_]{1,12}$`)
	optionForm = regexp.MustCompile(`^\?([a-z0-9_]{1,12})$`)
	pulledForm = regexp.MustCompile(`^([a-z][a-z0-9]*(?:-[a-z0-9]+)*)/([a-z0-9_]{1,12})$`)
)

// isName is a second Name of package ident.
func isName(s string) bool {
	return len(s) <= 16 && nameForm.MatchString(s)
}

// rises reports whether l is in strictly ascending order.
func rises(l []string) bool {
	for i := 1; i < len(l); i++ {
		if l[i-1] >= l[i] {
			return false
		}
	}
	return true
}

// words reports whether all elements of l are words.
func words(l []string) bool {
	return !slices.ContainsFunc(l, func(s string) bool { return !wordForm.MatchString(s) })
}

// rangeOf reports whether s is the string of a range.
func rangeOf(s string) bool {
	r, err := scope.Parse(s)
	return err == api.OK && scope.Print(r) == s
}

// markOf reports whether s is the string of a marker.
func markOf(s string) bool {
	m, err := mark.Parse(s)
	return err == api.OK && mark.Print(m) == s
}

// featuresOf reports whether the Features of a record are valid by chapter 11.
func featuresOf(l []api.Feature) bool {
	names := []string{"default"}
	for _, f := range l {
		names = append(names, f.Name)
	}
	if len(l) > 8 || !rises(names[1:]) || !words(names) {
		return false
	}
	for _, f := range l {
		if len(f.Of) > 6 || !rises(f.Of) {
			return false
		}
		for _, item := range f.Of {
			pulled := pulledForm.FindStringSubmatch(item)
			if !slices.Contains(names, item) && !optionForm.MatchString(item) && (pulled == nil || len(pulled[1]) > 16) {
				return false
			}
		}
	}
	return true
}

// rule is an error that Check returns if wrong is true.
type rule struct {
	wrong bool
	err   api.Errno
	at    int
}

// targetRules are the rules for what a need or a bar names.
func targetRules(name, within, own string, at int) []rule {
	return []rule{{!isName(name), api.ErrName, at}, {name == own, api.ErrTwice, at}, {!rangeOf(within), api.ErrRange, at}}
}

// needRules are the rules for the need at this index.
func needRules(n api.Need, own string, at int) []rule {
	l := []rule{{len(n.Any) == 0, api.ErrNone, at}, {len(n.Any) > 3, api.ErrLong, at}}
	if len(n.Any) > 3 {
		return l
	}
	for _, w := range n.Any {
		l = append(l, targetRules(w.Name, w.Range, own, at)...)
		f := w.Features
		l = append(l, rule{len(f) > 6, api.ErrFeature, at}, rule{!words(f), api.ErrFeature, at}, rule{!rises(f), api.ErrFeature, at},
			rule{len(f) > 0 && len(n.Any) > 1, api.ErrFeature, at})
	}
	option := n.Option == "" || wordForm.MatchString(n.Option)
	return append(l, rule{!markOf(n.When), api.ErrMark, at}, rule{!option, api.ErrOption, at})
}

// itemRules are the rules for the items of the features of r.
func itemRules(r api.Record) []rule {
	options, lone := map[string]bool{}, map[string]bool{}
	for _, n := range r.Needs {
		options[n.Option] = true
		if len(n.Any) == 1 {
			lone[n.Any[0].Name] = true
		}
	}
	var l []rule
	for i, f := range r.Features {
		for _, item := range f.Of {
			if m := optionForm.FindStringSubmatch(item); m != nil {
				l = append(l, rule{!options[m[1]], api.ErrOption, i})
			} else if m := pulledForm.FindStringSubmatch(item); m != nil {
				l = append(l, rule{!lone[m[1]], api.ErrNeed, i})
			}
		}
	}
	return l
}

// faultOf is a second Check.
func faultOf(r api.Record) (api.Errno, int) {
	l := []rule{{!isName(r.Name), api.ErrName, 0}, {version.Print(r.V) == "", api.ErrVersion, 0},
		{len(r.Needs) > 8, api.ErrLong, 0}, {len(r.Bars) > 8, api.ErrLong, 0}}
	for i, n := range r.Needs {
		l = append(l, needRules(n, r.Name, i)...)
	}
	for i, b := range r.Bars {
		l = append(l, targetRules(b.Name, b.Range, r.Name, i)...)
		l = append(l, rule{!markOf(b.When), api.ErrMark, i})
	}
	l = append(l, rule{!featuresOf(r.Features), api.ErrFeature, 0})
	l = append(l, itemRules(r)...)
	l = append(l, rule{len(textOf(r)) > 4096, api.ErrLong, 0})
	if i := slices.IndexFunc(l, func(x rule) bool { return x.wrong }); i >= 0 {
		return l[i].err, l[i].at
	}
	return api.OK, 0
}

// textOf is a second text.
func textOf(r api.Record) string {
	s := fmt.Sprintf("package %s %s\n", r.Name, version.Print(r.V))
	for _, n := range r.Needs {
		s += "need\n"
		for _, w := range n.Any {
			features, extent := strings.Join(w.Features, ","), map[bool]string{true: "bare", false: "full"}[w.Bare]
			if len(w.Features) == 0 {
				features = "-"
			}
			s += fmt.Sprintf("any %s %s %s %s\n", w.Name, features, extent, w.Range)
		}
		if n.When != "" {
			s += "when " + n.When + "\n"
		}
		if n.Option != "" {
			s += "option " + n.Option + "\n"
		}
	}
	for _, b := range r.Bars {
		s += fmt.Sprintf("bar %s %s\n", b.Name, b.Range)
		if b.When != "" {
			s += "when " + b.When + "\n"
		}
	}
	for _, f := range r.Features {
		s += "feature " + strings.Join(append([]string{f.Name}, f.Of...), " ") + "\n"
	}
	return s
}

// form is the list of all fields of r, with nothing for nil and for an empty list.
func form(r api.Record) string {
	l := []any{r.Name, r.V.Major, r.V.Minor, r.V.Patch, r.V.Pre, r.V.Build}
	for _, n := range r.Needs {
		l = append(l, "need", n.When, n.Option)
		for _, w := range n.Any {
			l = append(l, "wish", w.Name, w.Range, w.Bare, len(w.Features), w.Features)
		}
	}
	for _, b := range r.Bars {
		l = append(l, "bar", b.Name, b.Range, b.When)
	}
	for _, f := range r.Features {
		l = append(l, "feature", f.Name, len(f.Of), f.Of)
	}
	return fmt.Sprintf("%q", l)
}

// copied is r in new memory, lists and strings.
func copied(r api.Record) api.Record {
	c := api.Record{Name: strings.Clone(r.Name), V: r.V}
	for _, n := range r.Needs {
		var l []api.Wish
		for _, w := range n.Any {
			l = append(l, api.Wish{Name: strings.Clone(w.Name), Range: strings.Clone(w.Range),
				Features: append([]string(nil), w.Features...), Bare: w.Bare})
		}
		c.Needs = append(c.Needs, api.Need{Any: l, When: strings.Clone(n.When), Option: strings.Clone(n.Option)})
	}
	c.Bars = append(c.Bars, r.Bars...)
	for _, f := range r.Features {
		c.Features = append(c.Features, api.Feature{Name: strings.Clone(f.Name), Of: append([]string(nil), f.Of...)})
	}
	return c
}

// base is a valid record that has some of all.
func base() api.Record {
	return api.Record{
		Name: "app",
		V:    api.Version{Major: 1, Minor: 2, Patch: 3, Pre: "rc.1", Build: "b.7"},
		Needs: []api.Need{
			{Any: []api.Wish{{Name: "zip", Range: ">=1, <2 || =3.1.4", Features: []string{"best", "fast"}, Bare: true}},
				When: "os = linux or arch != x86", Option: "net"},
			{Any: []api.Wish{{Name: "tls", Range: "^1"}, {Name: "ssl-lib", Range: "*", Bare: true}}},
			{Any: []api.Wish{{Name: "log", Range: "~0.3"}}, Option: "trace"},
		},
		Bars: []api.Bar{{Name: "old", Range: "<1"}, {Name: "zip", Range: "=1.5", When: "abi = musl"}},
		Features: []api.Feature{{Name: "all", Of: []string{"?net", "?trace", "default", "log/more", "none", "zip/best"}},
			{Name: "none"}, {Name: "quick", Of: []string{"?net", "zip/fast"}}},
	}
}

// small is a valid record of few parts.
func small() api.Record {
	return api.Record{Name: "a", Needs: []api.Need{{Any: []api.Wish{{Name: "b", Range: "*"}}}}, Bars: []api.Bar{{Name: "c", Range: "*"}},
		Features: []api.Feature{{Name: "f"}}}
}

// some is r as a text, shortened.
func some(r api.Record) string {
	return fmt.Sprintf("%.400q", fmt.Sprintf("%+v", r))
}

// checkFault holds Check, Print and Sum against a record that they refuse.
func checkFault(t *testing.T, r api.Record, want api.Errno, at int) {
	t.Helper()
	if err, i := Check(r); err != want || i != at {
		t.Errorf("Check(%s): %v, %d; want %v, %d", some(r), err, i, want, at)
	}
	if s, err := Print(r); err != want || s != "" {
		t.Errorf("Print(%s): %.60q, %v; want %v", some(r), s, err, want)
	}
	if n, err := Sum(r); err != want || n != 0 {
		t.Errorf("Sum(%s): %d, %v; want %v", some(r), n, err, want)
	}
}

// checkGood holds all functions against a valid record, whose string is s.
func checkGood(t *testing.T, r api.Record, s string) {
	t.Helper()
	if err, at := Check(r); err != api.OK || at != 0 {
		t.Errorf("Check(%s): %v, %d", some(r), err, at)
	}
	if got, err := Print(r); err != api.OK || got != s {
		t.Errorf("Print(%s): %q, %v; want %q", some(r), got, err, s)
	}
	if n, err := Sum(r); err != api.OK || n != digest.Sum([]byte(s)) {
		t.Errorf("Sum(%s): %x, %v", some(r), n, err)
	}
	p, err, at := Parse(s)
	if err != api.OK || at != 0 || form(p) != form(r) {
		t.Errorf("Parse(%q): %s, %v, %d; want %s", s, form(p), err, at, form(r))
	}
	if !Same(p, r) || !Same(r, p) {
		t.Errorf("Same of %s and what is read of its string is false", some(r))
	}
}

// checkAny holds all functions against any record, and reports whether it is valid.
func checkAny(t *testing.T, r api.Record) bool {
	t.Helper()
	err, at := faultOf(r)
	if err != api.OK {
		checkFault(t, r, err, at)
		return false
	}
	checkGood(t, r, textOf(r))
	return true
}

// turn makes one change to a record.
type turn struct {
	do  func(r *api.Record)
	err api.Errno
	at  int
}

// wide is a range with a string of as many bytes as it may have, and far is a marker.
const (
	wide = "=1000.1000.1000-abcdefgh, =1000.1000.1000-abcdefgh, =1000.1000.1000-abcdefgh, =1000.1000.1000-ab"
	far  = "os = abcdefghijkl and arch = abcdefghijkl and abi = abcdefghijkl"
)

// swell makes the string of base too long.
func swell(r *api.Record) {
	for len(r.Needs) < 8 {
		r.Needs = append(r.Needs, api.Need{Any: slices.Repeat([]api.Wish{{Name: "abcdefghijklmnop"}}, 3)})
	}
	for len(r.Bars) < 8 {
		r.Bars = append(r.Bars, api.Bar{Name: "abcdefghijklmnop"})
	}
	for i := range 8 {
		r.Needs[i].When, r.Bars[i].When, r.Bars[i].Range = far, far, wide
		for k := range r.Needs[i].Any {
			r.Needs[i].Any[k].Range = wide
		}
	}
}

// targetTurns are changes to what a need or a bar names.
func targetTurns(name, within func(r *api.Record) *string, at int) []turn {
	return []turn{
		{func(r *api.Record) { *name(r) = "A" }, api.ErrName, at},
		{func(r *api.Record) { *name(r) = "app" }, api.ErrTwice, at},
		{func(r *api.Record) { *within(r) = ">=1,<2" }, api.ErrRange, at},
	}
}

// needTurns are changes to the need of base at this index, in the order of their errors.
func needTurns(at int) []turn {
	l := []turn{
		{func(r *api.Record) { r.Needs[at].Any = nil }, api.ErrNone, at},
		{func(r *api.Record) { r.Needs[at].Any = append(r.Needs[at].Any, make([]api.Wish, 3)...) }, api.ErrLong, at},
	}
	for k := range base().Needs[at].Any {
		wish := func(r *api.Record) *api.Wish { return &r.Needs[at].Any[k] }
		l = append(l, targetTurns(func(r *api.Record) *string { return &wish(r).Name },
			func(r *api.Record) *string { return &wish(r).Range }, at)...)
		l = append(l, turn{func(r *api.Record) { wish(r).Features = []string{"b", "a"} }, api.ErrFeature, at})
	}
	return append(l,
		turn{func(r *api.Record) { r.Needs[at].When = "os=a" }, api.ErrMark, at},
		turn{func(r *api.Record) { r.Needs[at].Option = "A" }, api.ErrOption, at})
}

// turns are changes to base, in the order of their errors.
func turns() []turn {
	l := []turn{
		{func(r *api.Record) { r.Name = "App" }, api.ErrName, 0},
		{func(r *api.Record) { r.V.Pre = "01" }, api.ErrVersion, 0},
		{func(r *api.Record) { r.Needs = append(r.Needs, make([]api.Need, 6)...) }, api.ErrLong, 0},
		{func(r *api.Record) { r.Bars = append(r.Bars, make([]api.Bar, 7)...) }, api.ErrLong, 0},
	}
	for at := range base().Needs {
		l = append(l, needTurns(at)...)
	}
	for at := range base().Bars {
		l = append(l, targetTurns(func(r *api.Record) *string { return &r.Bars[at].Name },
			func(r *api.Record) *string { return &r.Bars[at].Range }, at)...)
		l = append(l, turn{func(r *api.Record) { r.Bars[at].When = "os" }, api.ErrMark, at})
	}
	return append(l,
		turn{func(r *api.Record) { r.Features[1].Name = "all" }, api.ErrFeature, 0},
		turn{func(r *api.Record) { r.Features[0].Of[0] = "?gone" }, api.ErrOption, 0},
		turn{func(r *api.Record) { r.Features[0].Of[5] = "old/x" }, api.ErrNeed, 0},
		turn{func(r *api.Record) { r.Features[2].Of[0] = "?a" }, api.ErrOption, 2},
		turn{func(r *api.Record) { r.Features[2].Of[1] = "tls/x" }, api.ErrNeed, 2},
		turn{swell, api.ErrLong, 0})
}

// P12.1, R6: every error of Check with its index, alone and beside every later one.
func TestCheckOrder(t *testing.T) {
	l := turns()
	for i, x := range l {
		r := base()
		x.do(&r)
		checkFault(t, r, x.err, x.at)
		for _, y := range l[i+1:] {
			r := base()
			y.do(&r)
			x.do(&r)
			checkFault(t, r, x.err, x.at)
			if err, at := faultOf(r); err != x.err || at != x.at {
				t.Errorf("the second Check: %v, %d; want %v, %d", err, at, x.err, x.at)
			}
		}
	}
	r := base()
	for i := range l {
		l[len(l)-1-i].do(&r)
	}
	checkFault(t, r, api.ErrName, 0)
	checkAny(t, base())
	checkAny(t, small())
	checkFault(t, api.Record{}, api.ErrName, 0)
}

// P12.1: names of the record, of wishes and of bars.
func TestNames(t *testing.T) {
	for _, s := range []string{"", "A", "1", "1a", "_", "a_b", "-", "-a", "a-", "a--b", " ", "a ", " a", "a b", "a\n", "a\x00",
		"a.b", "a/b", "?a",
		"\u00e4", "\xff", "abcdefghijklmnopq"} {
		r := small()
		r.Name = s
		checkFault(t, r, api.ErrName, 0)
		for _, at := range []int{0, 1} {
			r = base()
			r.Needs[1].Any[at].Name = s
			checkFault(t, r, api.ErrName, 1)
			r = base()
			r.Bars[at].Name = s
			checkFault(t, r, api.ErrName, at)
		}
	}
	for _, s := range []string{"x", "z9", "a-b", "a-0", "package", "need", "any", "bare", "abcdefghijklmnop"} {
		r := small()
		r.Name = s
		checkGood(t, r, textOf(r))
		r = small()
		r.Needs[0].Any[0].Name = s
		r.Bars[0].Name = s
		checkGood(t, r, textOf(r))
		r.Name = s
		checkFault(t, r, api.ErrTwice, 0)
		r.Needs = nil
		checkFault(t, r, api.ErrTwice, 0)
	}
}

// P12.1: the same package may be named by several wishes and bars.
func TestNamesAgain(t *testing.T) {
	r := base()
	r.Needs[1].Any[1].Name = "tls"
	r.Needs[2].Any[0].Name = "zip"
	r.Bars[0] = r.Bars[1]
	r.Features = nil
	checkGood(t, r, textOf(r))
	r.Needs[2].Any = slices.Repeat(r.Needs[2].Any, 3)
	checkGood(t, r, textOf(r))
}

// P12.1: versions.
func TestVersions(t *testing.T) {
	for _, v := range []api.Version{{Major: -1}, {Minor: -1}, {Patch: -1}, {Major: 10000}, {Minor: 10000}, {Patch: math.MaxInt},
		{Patch: math.MinInt},
		{Pre: "01"}, {Pre: "10000"}, {Pre: "a.b.c.d.e"}, {Pre: "A"}, {Pre: "a+b"}, {Pre: "."}, {Pre: "a b"}, {Build: "A"},
		{Build: "a..b"}, {Build: "abcdefghi"}, {Build: "\n"}} {
		r := small()
		r.V = v
		checkFault(t, r, api.ErrVersion, 0)
	}
	for _, v := range []api.Version{{}, {Major: 9999, Minor: 9999, Patch: 9999}, {Pre: "0"}, {Pre: "-"}, {Build: "-"},
		{Pre: "a.1.b.2", Build: "01.a.02.b"},
		{Pre: "abcdefgh.abcdefgh.abcdefgh.abcdefgh", Build: "abcdefgh.abcdefgh.abcdefgh.abcdefgh"}} {
		r := small()
		r.V = v
		checkGood(t, r, textOf(r))
	}
}

// P12.1: ranges of wishes and of bars.
func TestRanges(t *testing.T) {
	for _, s := range []string{"", " ", "1", "1.2.3", "x", "* ", " *", ">= 1", ">=1,<2", ">=1 , <2", ">=1, <2,", "* ||*", "*||*",
		"* || ", "|| *", ">=1\n", "*\x00",
		"=01", "==1", "=1.2.3+b", "* || * || * || * || * || * || *", "*, *, *, *, *, *, *", "\xff", wide + "c", "=10000"} {
		for _, at := range []int{0, 1} {
			r := base()
			r.Needs[1].Any[at].Range = s
			checkFault(t, r, api.ErrRange, 1)
			r = base()
			r.Bars[at].Range = s
			checkFault(t, r, api.ErrRange, at)
		}
	}
	for _, s := range []string{"*", "1.*", "=1", "^1", "!=1.2.3-a", "<9999.9999.9999", "*, *", "* || *", ">=1, <2 || =3.1.4",
		"* || * || * || * || * || *", "*, *, *, *, *, *", wide} {
		r := small()
		r.Needs[0].Any[0].Range, r.Bars[0].Range = s, s
		checkGood(t, r, textOf(r))
	}
	if len(wide) != 96 {
		t.Errorf("the range has %d bytes", len(wide))
	}
}

// P12.1: markers of needs and of bars.
func TestMarks(t *testing.T) {
	for _, s := range []string{" ", "x", "os", "os = ", "os=a", "os =  a", " os = a", "os = a ", "( os = a )", "not os = a",
		"not ( os = a )", "os = a and ( arch = b )",
		"os = a\n", "os = A", "cpu = a", "\xff", "os = a and", strings.Repeat("not ", 15) + "os = a",
		strings.Repeat("os = a or ", 9) + "os = aa"} {
		for _, at := range []int{0, 1} {
			r := base()
			r.Needs[at].When = s
			checkFault(t, r, api.ErrMark, at)
			r = base()
			r.Bars[at].When = s
			checkFault(t, r, api.ErrMark, at)
		}
	}
	for _, s := range []string{"", "os = a", "os != a", "not os != a", "os = and", "not ( os = a and arch = b )", far,
		strings.Repeat("os = a or ", 7) + "os = a"} {
		r := small()
		r.Needs[0].When, r.Bars[0].When = s, s
		checkGood(t, r, textOf(r))
	}
}

// P12.1: options of needs.
func TestOptions(t *testing.T) {
	for _, s := range []string{" ", "A", "a-b", "a b", "?a", "a ", " a", "a\n", "a\x00", "a.b", "\u00e4", "\xff", "abcdefghijklm"} {
		for at := range 3 {
			r := base()
			r.Features, r.Needs[at].Option = nil, s
			checkFault(t, r, api.ErrOption, at)
		}
	}
	for _, s := range []string{"", "a", "0", "_", "default", "option", "abcdefghijkl"} {
		r := base()
		r.Features, r.Needs[0].Option, r.Needs[1].Option = nil, s, s
		checkGood(t, r, textOf(r))
	}
}

// P12.1: features of wishes.
func TestAsked(t *testing.T) {
	for _, l := range [][]string{{""}, {"A"}, {"-"}, {"a-b"}, {"a,b"}, {"a b"}, {"?a"}, {"a/b"}, {"abcdefghijklm"}, {"\xff"},
		{"a", ""}, {"", "a"}, {"a", "a"}, {"b", "a"},
		{"a", "b", "b"}, {"a", "c", "b"}, {"a", "b", "a"}, {"a", "_"}, {"a", "0"}, {"a", "B"}, {"a", "b", "c", "d", "e", "f", "g"}} {
		for _, at := range []int{0, 2} {
			r := base()
			r.Needs[at].Any[0].Features = l
			checkFault(t, r, api.ErrFeature, at)
		}
	}
	for _, l := range [][]string{nil, {}, {"a"}, {"default"}, {"0", "_", "a"}, {"a", "aa", "ab", "b"},
		{"a", "b", "c", "d", "e", "f"}, {"abcdefghijkl"}} {
		r := base()
		r.Needs[0].Any[0].Features = l
		checkGood(t, r, textOf(r))
		for at := range 3 {
			r := base()
			r.Needs[1].Any = []api.Wish{{Name: "x", Range: "*"}, {Name: "y", Range: "*"}, {Name: "z", Range: "*"}}
			r.Needs[1].Any[at].Features = l
			if len(l) > 0 {
				checkFault(t, r, api.ErrFeature, 1)
				r.Needs[1].Any = r.Needs[1].Any[:2]
			}
			if len(l) > 0 && at < 2 {
				checkFault(t, r, api.ErrFeature, 1)
				r.Needs[1].Any = r.Needs[1].Any[at : at+1]
			}
			if len(l) == 0 || at < 2 {
				checkGood(t, r, textOf(r))
			}
		}
	}
}

// P12.1: how many parts there may be.
func TestNumbers(t *testing.T) {
	for n := range 20 {
		r := small()
		r.Needs = slices.Repeat(r.Needs, n)
		if checkAny(t, r) != (n <= 8) {
			t.Errorf("%d needs", n)
		}
		r = small()
		r.Bars = slices.Repeat(r.Bars, n)
		if checkAny(t, r) != (n <= 8) {
			t.Errorf("%d bars", n)
		}
		r = base()
		r.Needs[2].Any = slices.Repeat(r.Needs[2].Any, n)
		r.Features = r.Features[1:2]
		if checkAny(t, r) != (1 <= n && n <= 3) {
			t.Errorf("%d wishes", n)
		}
		r = small()
		r.Features = nil
		for i := range n {
			r.Features = append(r.Features, api.Feature{Name: fmt.Sprintf("f%02d", i)})
			r.Needs[0].Any[0].Features = append(r.Needs[0].Any[0].Features, fmt.Sprintf("f%02d", i))
		}
		if asked := r.Needs[0].Any[0].Features; len(asked) > 6 {
			checkFault(t, r, api.ErrFeature, 0)
			r.Needs[0].Any[0].Features = asked[:6]
		}
		if checkAny(t, r) != (n <= 8) {
			t.Errorf("%d features", n)
		}
	}
	r := small()
	r.Needs, r.Bars = slices.Repeat(r.Needs, 8), slices.Repeat(r.Bars, 8)
	checkGood(t, r, textOf(r))
	for n := range 10 {
		r.Features[0].Of = nil
		for i := range n {
			r.Features[0].Of = append(r.Features[0].Of, fmt.Sprintf("b/%d", i))
		}
		if checkAny(t, r) != (n <= 6) {
			t.Errorf("%d items", n)
		}
	}
}

// P12.1: to what the items of features may refer.
func TestItems(t *testing.T) {
	for _, x := range []struct {
		item string
		err  api.Errno
	}{
		{"?net", api.OK}, {"?trace", api.OK}, {"zip/a", api.OK}, {"zip/default", api.OK}, {"log/a", api.OK}, {"default", api.OK},
		{"all", api.OK}, {"none", api.OK},
		{"?gone", api.ErrOption}, {"?zip", api.ErrOption}, {"?none", api.ErrOption}, {"?default", api.ErrOption},
		{"?ne", api.ErrOption}, {"?nets", api.ErrOption},
		{"tls/a", api.ErrNeed}, {"ssl-lib/a", api.ErrNeed}, {"old/a", api.ErrNeed}, {"app/a", api.ErrNeed}, {"net/a", api.ErrNeed},
		{"none/a", api.ErrNeed}, {"zi/p", api.ErrNeed},
		{"", api.ErrFeature}, {"?", api.ErrFeature}, {"net", api.ErrFeature}, {"zip", api.ErrFeature}, {"zip/", api.ErrFeature},
		{"/a", api.ErrFeature}, {"zip/a/b", api.ErrFeature}, {"gone", api.ErrFeature},
	} {
		for at := range 3 {
			r := base()
			r.Features[at].Of = []string{x.item}
			switch x.err {
			case api.OK:
				checkGood(t, r, textOf(r))
			case api.ErrFeature:
				checkFault(t, r, x.err, 0)
			default:
				checkFault(t, r, x.err, at)
			}
		}
	}
	// Needs of one wish for a package do as well if others for it have several.
	r := small()
	r.Features[0].Of = []string{"?o", "x/y"}
	lone, pair := []api.Wish{{Name: "x", Range: "*"}}, []api.Wish{{Name: "x", Range: "*"}, {Name: "z", Range: "*"}}
	r.Needs = []api.Need{{Any: pair}, {Any: pair, Option: "p"}}
	checkFault(t, r, api.ErrOption, 0)
	r.Needs[0].Option = "o"
	checkFault(t, r, api.ErrNeed, 0)
	r.Needs = append(r.Needs, api.Need{Any: lone, When: "os = a", Option: "q"}, api.Need{Any: pair})
	checkGood(t, r, textOf(r))
	r.Needs[2].Any = slices.Repeat(lone, 2)
	checkFault(t, r, api.ErrNeed, 0)
	r.Bars[0].Name = "x"
	checkFault(t, r, api.ErrNeed, 0)
	r.Needs = nil
	checkFault(t, r, api.ErrOption, 0)
}

// long is a record with a string of n bytes, from 3850 to 4200, which is valid if these
// are not too many.
func long(n int) api.Record {
	r := api.Record{Name: "a"}
	for range 8 {
		r.Needs = append(r.Needs, api.Need{Any: slices.Repeat([]api.Wish{{Name: "b", Range: wide}}, 3), When: far})
	}
	bar := api.Bar{Name: "c", Range: wide}
	for len(r.Bars) < 8 && len(textOf(r))+len("bar c \n")+len(wide) <= n {
		r.Bars = append(r.Bars, bar)
	}
	for i := 0; len(textOf(r)) < n; i++ {
		r.Needs[i/3].Any[i%3].Name = strings.Repeat("b", min(16, n-len(textOf(r))+1))
	}
	return r
}

// P12.1, P12.2: how long the string of a record may be.
func TestLength(t *testing.T) {
	for n := 3850; n <= 4120; n++ {
		r := long(n)
		s := textOf(r)
		if len(s) != n || checkAny(t, r) != (n <= 4096) {
			t.Fatalf("%d bytes, not %d", len(s), n)
		}
		if n > 4096 {
			checkFault(t, r, api.ErrLong, 0)
			checkRefused(t, s, api.ErrLong, 0)
		}
	}
	r := long(4097)
	r.Features = []api.Feature{{Name: "x", Of: []string{"?gone"}}}
	checkFault(t, r, api.ErrOption, 0)
	r = base()
	swell(&r)
	if s := textOf(r); len(s) < 4097 {
		t.Errorf("only %d bytes", len(s))
	}
	checkFault(t, r, api.ErrLong, 0)
}

// P12.3: some checksums, which another program computed.
func TestSums(t *testing.T) {
	for _, x := range []struct {
		r   api.Record
		sum uint64
	}{
		{api.Record{Name: "a"}, 0x1a6af89c234c0bc2},
		{small(), 0xf3b182ba470773b4},
		{base(), 0xa67872806edf6210},
		{long(4096), 0x311bde4b906e90fd},
	} {
		if n, err := Sum(x.r); err != api.OK || n != x.sum {
			t.Errorf("Sum(%s): %x, %v; want %x", some(x.r), n, err, x.sum)
		}
	}
	seen := map[uint64]bool{}
	for _, x := range sames() {
		r := base()
		x(&r)
		if n, err := Sum(r); err == api.OK && seen[n] {
			t.Errorf("Sum(%s): %x again", some(r), n)
		} else if err == api.OK {
			seen[n] = true
		}
	}
	if len(seen) < 10 {
		t.Errorf("only %d are valid", len(seen))
	}
}

// sames are changes to base, after each of which it is another record.
func sames() []func(r *api.Record) {
	return []func(r *api.Record){
		func(r *api.Record) { r.Name = "apq" },
		func(r *api.Record) { r.Name = "" },
		func(r *api.Record) { r.V.Major = 2 },
		func(r *api.Record) { r.V.Minor = 0 },
		func(r *api.Record) { r.V.Patch = -3 },
		func(r *api.Record) { r.V.Pre = "" },
		func(r *api.Record) { r.V.Pre = "rc.01" },
		func(r *api.Record) { r.V.Build = "" },
		func(r *api.Record) { r.V.Build = "b.8" },
		func(r *api.Record) { r.Needs = nil },
		func(r *api.Record) { r.Needs = r.Needs[:2] },
		func(r *api.Record) { r.Needs = r.Needs[1:] },
		func(r *api.Record) { r.Needs[0], r.Needs[1] = r.Needs[1], r.Needs[0] },
		func(r *api.Record) { r.Needs = append(r.Needs, api.Need{}) },
		func(r *api.Record) { r.Needs[0].Any = nil },
		func(r *api.Record) { r.Needs[1].Any = r.Needs[1].Any[:1] },
		func(r *api.Record) { r.Needs[1].Any = r.Needs[1].Any[1:] },
		func(r *api.Record) { slices.Reverse(r.Needs[1].Any) },
		func(r *api.Record) { r.Needs[1].Any = append(r.Needs[1].Any, api.Wish{}) },
		func(r *api.Record) { r.Needs[1].Any[0].Name = "tlt" },
		func(r *api.Record) { r.Needs[1].Any[1].Name = "ssl" },
		func(r *api.Record) { r.Needs[0].Any[0].Range = "*" },
		func(r *api.Record) { r.Needs[0].Any[0].Range += " " },
		func(r *api.Record) { r.Needs[1].Any[1].Range = "1.*" },
		func(r *api.Record) { r.Needs[0].Any[0].Bare = false },
		func(r *api.Record) { r.Needs[1].Any[0].Bare = true },
		func(r *api.Record) { r.Needs[0].Any[0].Features = nil },
		func(r *api.Record) { r.Needs[0].Any[0].Features = r.Needs[0].Any[0].Features[:1] },
		func(r *api.Record) { r.Needs[0].Any[0].Features[0] = "beste" },
		func(r *api.Record) { r.Needs[0].Any[0].Features[1] = "faster" },
		func(r *api.Record) { r.Needs[0].Any[0].Features = []string{"best,fast"} },
		func(r *api.Record) { r.Needs[2].Any[0].Features = []string{""} },
		func(r *api.Record) { r.Needs[0].When = "" },
		func(r *api.Record) { r.Needs[1].When = "os = a" },
		func(r *api.Record) { r.Needs[2].When = " " },
		func(r *api.Record) { r.Needs[0].Option = "trace" },
		func(r *api.Record) { r.Needs[1].Option = "o" },
		func(r *api.Record) { r.Needs[2].Option = "" },
		func(r *api.Record) { r.Bars = nil },
		func(r *api.Record) { r.Bars = r.Bars[1:] },
		func(r *api.Record) { r.Bars = r.Bars[:1] },
		func(r *api.Record) { slices.Reverse(r.Bars) },
		func(r *api.Record) { r.Bars = append(r.Bars, api.Bar{}) },
		func(r *api.Record) { r.Bars[0].Name = "older" },
		func(r *api.Record) { r.Bars[1].Range = "=1.6" },
		func(r *api.Record) { r.Bars[0].When = "abi = musl" },
		func(r *api.Record) { r.Bars[1].When = "" },
		func(r *api.Record) { r.Features = nil },
		func(r *api.Record) { r.Features = r.Features[:2] },
		func(r *api.Record) { r.Features = r.Features[1:] },
		func(r *api.Record) { slices.Reverse(r.Features) },
		func(r *api.Record) { r.Features = append(r.Features, api.Feature{}) },
		func(r *api.Record) { r.Features[2].Name = "quicker" },
		func(r *api.Record) { r.Features[0].Of[4] = "all" },
		func(r *api.Record) { r.Features[0].Of = r.Features[0].Of[:5] },
		func(r *api.Record) { r.Features[0].Of = r.Features[0].Of[1:] },
		func(r *api.Record) { r.Features[1].Of = []string{"none"} },
		func(r *api.Record) { r.Features[1].Of = []string{""} },
		func(r *api.Record) { r.Features[2].Of = nil },
		func(r *api.Record) { slices.Reverse(r.Features[2].Of) },
	}
}

// P12.2: Same tells records apart by every field.
func TestSame(t *testing.T) {
	all := []api.Record{base(), {}, small()}
	for _, x := range sames() {
		r := base()
		x(&r)
		all = append(all, r)
	}
	for i, a := range all {
		for j, b := range all {
			if got := Same(a, b); got != (i == j) {
				t.Errorf("Same(%s, %s) is %v", some(a), some(b), got)
			}
		}
		if !Same(a, copied(a)) || !Same(copied(a), a) {
			t.Errorf("Same(%s) and a copy is false", some(a))
		}
	}
	empty := api.Record{Needs: []api.Need{}, Bars: []api.Bar{}, Features: []api.Feature{}}
	if !Same(api.Record{}, empty) || !Same(empty, api.Record{}) {
		t.Error("nil and empty lists of the record")
	}
	one := api.Record{Needs: []api.Need{{}, {Any: []api.Wish{{}}}}, Features: []api.Feature{{}}}
	two := api.Record{Needs: []api.Need{{Any: []api.Wish{}}, {Any: []api.Wish{{Features: []string{}}}}}, Bars: []api.Bar{},
		Features: []api.Feature{{Of: []string{}}}}
	if !Same(one, two) || !Same(two, one) || Same(one, empty) || Same(empty, two) {
		t.Error("nil and empty lists of the parts")
	}
}

// grown is a random record, which is valid.
func grown(r *rand.Rand) api.Record {
	pick := func(l ...string) string { return l[r.Intn(len(l))] }
	within := func() string {
		return pick("*", "1.*", "^1", ">=1, <2", "=1 || =3", "!=0.0.1-a", "~1.2.3 || *", ">1, <3, !=2")
	}
	when := func() string {
		return pick("", "", "os = a", "os != a and arch = b", "not ( os = a or abi = c )", "arch = b")
	}
	some := func(most int, l ...string) []string {
		var few []string
		for _, i := range r.Perm(len(l))[:r.Intn(min(most, len(l))+1)] {
			few = append(few, l[i])
		}
		slices.Sort(few)
		return few
	}
	x := api.Record{Name: pick("a", "app", "z-9"), V: api.Version{Major: r.Intn(3), Minor: r.Intn(20), Patch: r.Intn(10000),
		Pre: pick("", "", "a", "rc.1"), Build: pick("", "b")}}
	items := []string{"default"}
	for range r.Intn(9) {
		n := api.Need{When: when(), Option: pick("", "o", "p", "net")}
		for range 1 + r.Intn(3)*r.Intn(2) {
			n.Any = append(n.Any, api.Wish{Name: pick("b", "c", "zip", "left-pad"), Range: within(), Bare: r.Intn(2) == 0})
		}
		if len(n.Any) == 1 {
			n.Any[0].Features = some(6, "0", "_", "f", "g", "default", "x86_64", "z")
			items = append(items, n.Any[0].Name+"/f", n.Any[0].Name+"/default")
		}
		if n.Option != "" {
			items = append(items, "?"+n.Option)
		}
		x.Needs = append(x.Needs, n)
	}
	for range r.Intn(9) {
		x.Bars = append(x.Bars, api.Bar{Name: pick("b", "c", "zip", "old"), Range: within(), When: when()})
	}
	names := some(8, "0", "_", "a", "b", "default", "f", "g", "net", "o", "zip")
	items = append(items, names...)
	slices.Sort(items)
	items = slices.Compact(items)
	for _, name := range names {
		x.Features = append(x.Features, api.Feature{Name: name, Of: some(6, items...)})
	}
	return x
}

// harm makes a random change to x, after which it is often not valid.
func harm(r *rand.Rand, x *api.Record) {
	bad := []string{"", "A", " ", "a", "o", "zip", "os = a", "*", "1", "?p", "zip/f", "b/f", "-", "a b", "\n", "\xff"}[r.Intn(16)]
	switch i := r.Intn(4); {
	case i == 0 && len(x.Needs) > 0:
		n := &x.Needs[r.Intn(len(x.Needs))]
		w := &n.Any[r.Intn(len(n.Any))]
		switch r.Intn(7) {
		case 0:
			w.Name = bad
		case 1:
			w.Range = bad
		case 2:
			w.Features = append(w.Features, bad)
		case 3:
			n.When = bad
		case 4:
			n.Option = bad
		case 5:
			n.Any = append(n.Any, *w)
		case 6:
			w.Name = x.Name
		}
	case i == 1 && len(x.Bars) > 0:
		b := &x.Bars[r.Intn(len(x.Bars))]
		*[]*string{&b.Name, &b.Range, &b.When}[r.Intn(3)] = bad
	case i == 2 && len(x.Features) > 0:
		f := &x.Features[r.Intn(len(x.Features))]
		if len(f.Of) == 0 || r.Intn(3) == 0 {
			f.Of = append(f.Of, bad)
		} else {
			f.Of[r.Intn(len(f.Of))] = bad
		}
		slices.Sort(f.Of)
	case i == 3 && len(x.Needs) > 0:
		at := r.Intn(len(x.Needs))
		x.Needs = slices.Delete(x.Needs, at, at+1)
	default:
		x.Name = bad
	}
}

// P12.1, P12.2, P12.3, P12.4: random records, valid and not.
func TestRandom(t *testing.T) {
	r := rand.New(rand.NewSource(1))
	found := map[api.Errno]int{}
	for i := 0; i < 5000 && !t.Failed(); i++ {
		x := grown(r)
		if !checkAny(t, x) {
			t.Errorf("%s is not valid", some(x))
		}
		for range 1 + r.Intn(3) {
			if !slices.ContainsFunc(x.Needs, func(n api.Need) bool { return len(n.Any) == 0 }) {
				harm(r, &x)
			}
		}
		checkAny(t, x)
		err, _ := faultOf(x)
		found[err]++
	}
	for _, err := range []api.Errno{api.OK, api.ErrName, api.ErrTwice, api.ErrRange, api.ErrFeature, api.ErrMark, api.ErrOption,
		api.ErrNeed, api.ErrLong} {
		if found[err] < 20 {
			t.Errorf("of the errors: %v", found)
		}
	}
}

// texts are all strings of r.
func texts(r api.Record) []string {
	l := []string{r.Name, r.V.Pre, r.V.Build}
	for _, n := range r.Needs {
		l = append(l, n.When, n.Option)
		for _, w := range n.Any {
			l = append(append(l, w.Name, w.Range), w.Features...)
		}
	}
	for _, b := range r.Bars {
		l = append(l, b.Name, b.Range, b.When)
	}
	for _, f := range r.Features {
		l = append(append(l, f.Name), f.Of...)
	}
	return l
}

// apart reports whether no two of the texts share memory.
func apart(texts []string) bool {
	for i, a := range texts {
		for _, b := range texts[:i] {
			if a == "" || b == "" {
				continue
			}
			from, other := uintptr(unsafe.Pointer(unsafe.StringData(a))), uintptr(unsafe.Pointer(unsafe.StringData(b)))
			if from < other+uintptr(len(b)) && other < from+uintptr(len(a)) {
				return false
			}
		}
	}
	return true
}

// R4 for P12.2: results are new memory, and no two lists of one share any.
func TestMemory(t *testing.T) {
	s := textOf(base())
	a, _, _ := Parse(s)
	b, _, _ := Parse(s)
	c, _ := Print(base())
	d, _ := Print(base())
	if !apart(slices.Concat([]string{s, c, d}, texts(a), texts(b))) {
		t.Error("two texts share memory")
	}
	check := func() {
		t.Helper()
		if form(a) != form(base()) || form(b) != form(base()) {
			t.Fatalf("a list was changed: %s", form(a))
		}
	}
	behind := []string{"x", "x", "x", "x", "x", "x", "x", "x"}
	for i := range a.Needs {
		n := &a.Needs[i]
		for k := range n.Any {
			_ = append(n.Any[k].Features, behind...)
			check()
		}
		_ = append(n.Any, api.Wish{Name: "x"}, api.Wish{Name: "x"})
		check()
	}
	for i := range a.Features {
		_ = append(a.Features[i].Of, behind...)
		check()
	}
	_ = append(a.Needs, api.Need{Option: "x"})
	_ = append(a.Bars, api.Bar{Name: "x"})
	_ = append(a.Features, api.Feature{Name: "x"})
	check()
	a.Needs[0].Any[0].Features[0], a.Needs[1].Any[0].Name, a.Bars[0].Name, a.Features[0].Of[0] = "x", "x", "x", "x"
	if form(b) != form(base()) {
		t.Error("two results share memory")
	}
}

// R4 for P12.1 to P12.3: arguments stay as they are, with what lies behind their lists.
func TestArguments(t *testing.T) {
	whole := base()
	whole.Needs[1].Any = append(whole.Needs[1].Any, api.Wish{Name: "behind"})
	whole.Needs[0].Any[0].Features = append(whole.Needs[0].Any[0].Features, "behind")
	whole.Features[2].Of = append(whole.Features[2].Of, "behind")
	whole.Needs = append(whole.Needs, api.Need{Option: "behind"})
	whole.Bars = append(whole.Bars, api.Bar{Name: "behind"})
	whole.Features = append(whole.Features, api.Feature{Name: "behind"})
	was := form(whole)
	r := whole
	r.Needs, r.Bars, r.Features = slices.Clone(whole.Needs[:3]), whole.Bars[:2], slices.Clone(whole.Features[:3])
	r.Needs[1].Any = r.Needs[1].Any[:2]
	r.Needs[0].Any = slices.Clone(r.Needs[0].Any)
	r.Needs[0].Any[0].Features = r.Needs[0].Any[0].Features[:2]
	r.Features[2].Of = r.Features[2].Of[:2]
	for range 3 {
		checkGood(t, r, textOf(base()))
		Same(r, whole)
		Check(whole)
		Print(whole)
		Sum(whole)
		if form(whole) != was || form(r) != form(base()) {
			t.Fatalf("the argument became %s", form(whole))
		}
	}
}

// R5 for P12.1 to P12.3: several goroutines may call the functions at the same time.
func TestTogether(t *testing.T) {
	r, s := base(), textOf(base())
	sum := digest.Sum([]byte(s))
	wrong := make(chan string)
	for i := range 8 {
		go func() {
			var told string
			for range 300 {
				x := small()
				x.Name = strings.Repeat("x", i+1)
				other, otherErr := Print(x)
				printed, err := Print(r)
				n, sumErr := Sum(r)
				p, parseErr, at := Parse(s)
				if printed != s || err != api.OK || n != sum || sumErr != api.OK || !Same(p, r) || parseErr != api.OK || at != 0 ||
					other != textOf(x) || otherErr != api.OK {
					told = "a result depends on other calls"
				}
			}
			wrong <- told
		}()
	}
	for range 8 {
		if told := <-wrong; told != "" {
			t.Error(told)
		}
	}
}

// R1 for P12.1 to P12.3: arguments of any length and any bytes.
func TestLong(t *testing.T) {
	start := time.Now()
	for _, b := range []string{"a", " ", "-", ",", "|", "*", "(", "?", "\n", "\x00", "\xff"} {
		s := strings.Repeat(b, 1<<22)
		for i, do := range []func(r *api.Record){
			func(r *api.Record) { r.Name = s },
			func(r *api.Record) { r.V.Pre = s },
			func(r *api.Record) { r.V.Build = s },
			func(r *api.Record) { r.Needs[1].Any[1].Name = s },
			func(r *api.Record) { r.Needs[1].Any[1].Range = s },
			func(r *api.Record) { r.Needs[0].Any[0].Features[1] = s },
			func(r *api.Record) { r.Needs[1].When = s },
			func(r *api.Record) { r.Needs[1].Option = s },
			func(r *api.Record) { r.Bars[1].Name = s },
			func(r *api.Record) { r.Bars[1].Range = s },
			func(r *api.Record) { r.Bars[1].When = s },
			func(r *api.Record) { r.Features[1].Name = s },
			func(r *api.Record) { r.Features[1].Of = []string{s} },
		} {
			r, other := base(), base()
			do(&r)
			do(&other)
			if err, _ := Check(r); err == api.OK {
				t.Errorf("Check of many %q, %d: OK", b, i)
			}
			if !Same(r, other) || Same(r, base()) {
				t.Errorf("Same of many %q, %d", b, i)
			}
		}
		checkRefused(t, s, api.ErrLong, 0)
		checkRefused(t, textOf(base())+s, api.ErrLong, 0)
	}
	r := base()
	r.Needs = make([]api.Need, 1<<20)
	checkFault(t, r, api.ErrLong, 0)
	r = base()
	r.Bars = make([]api.Bar, 1<<20)
	checkFault(t, r, api.ErrLong, 0)
	r = base()
	r.Needs[2].Any = make([]api.Wish, 1<<20)
	checkFault(t, r, api.ErrLong, 2)
	r = base()
	r.Needs[0].Any[0].Features = make([]string, 1<<20)
	checkFault(t, r, api.ErrFeature, 0)
	r = base()
	r.Features = make([]api.Feature, 1<<20)
	checkFault(t, r, api.ErrFeature, 0)
	r = base()
	r.Features[2].Of = make([]string, 1<<20)
	checkFault(t, r, api.ErrFeature, 0)
	if d := time.Since(start); d > 20*time.Second {
		t.Errorf("that took %v", d)
	}
}

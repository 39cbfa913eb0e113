package manifest

import (
	"fmt"
	"math/rand"
	"reflect"
	"regexp"
	"slices"
	"strings"
	"testing"
	"time"
	"unsafe"

	"linchpin/api"
	"linchpin/record"
	"linchpin/scope"
)

var (
	nameForm = regexp.MustCompile(`^[a-z][a-z0-9]*(-[a-z0-9]+)*$`)
	wordForm = regexp.MustCompile(`(?m)^(?:pin|hold)(?: |$)`)
	pinForm  = regexp.MustCompile(`^pin ([^ \n]+) ([^ \n]+)\n`)
	holdForm = regexp.MustCompile(`^hold ([^ \n]+) ([^\n]+)\n`)
)

// isName is a second Name of package ident.
func isName(s string) bool {
	return len(s) <= 16 && nameForm.MatchString(s)
}

// rises reports whether l is in strictly ascending order.
func rises(l []string) bool {
	return slices.IsSorted(l) && len(slices.Compact(slices.Clone(l))) == len(l)
}

// faultOf is a second Check.
func faultOf(m api.Manifest) (api.Errno, int) {
	if err, at := record.Check(m.Rec); err != api.OK {
		return err, at
	}
	if max(len(m.Pins), len(m.Holds)) > 8 {
		return api.ErrLong, 0
	}
	var pinned, held []string
	for i, p := range m.Pins {
		pinned = append(pinned, p.Name)
		if !isName(p.Name) || !isName(p.Shelf) || !rises(pinned) {
			return api.ErrPin, i
		}
	}
	for i, h := range m.Holds {
		held = append(held, h.Name)
		if !isName(h.Name) || !rises(held) {
			return api.ErrName, i
		}
		if r, err := scope.Parse(h.Range); err != api.OK || scope.Print(r) != h.Range {
			return api.ErrRange, i
		}
	}
	return api.OK, 0
}

// textOf is the string of a manifest whose record is valid.
func textOf(m api.Manifest) string {
	s, _ := record.Print(m.Rec)
	for _, p := range m.Pins {
		s += fmt.Sprintf("pin %s %s\n", p.Name, p.Shelf)
	}
	for _, h := range m.Holds {
		s += fmt.Sprintf("hold %s %s\n", h.Name, h.Range)
	}
	return s
}

// parseOf is a second Parse.
func parseOf(s string) (api.Manifest, api.Errno, int) {
	var none api.Manifest
	if len(s) > 8192 {
		return none, api.ErrLong, 0
	}
	own, rest := s, ""
	if at := wordForm.FindStringIndex(s); at != nil {
		own, rest = s[:at[0]], s[at[0]:]
	}
	r, err, at := record.Parse(own)
	if err != api.OK {
		return none, err, at
	}
	m := api.Manifest{Rec: r}
	for at = strings.Count(own, "\n") + 1; rest != ""; at++ {
		p, h := pinForm.FindStringSubmatch(rest), holdForm.FindStringSubmatch(rest)
		switch {
		case p != nil && m.Holds == nil:
			m.Pins = append(m.Pins, api.Pin{Name: p[1], Shelf: p[2]})
			rest = rest[len(p[0]):]
		case h != nil:
			m.Holds = append(m.Holds, api.Hold{Name: h[1], Range: h[2]})
			rest = rest[len(h[0]):]
		default:
			return none, api.ErrForm, at
		}
	}
	if err, _ := faultOf(m); err != api.OK {
		return none, err, 0
	}
	return m, api.OK, 0
}

// same compares all fields of two manifests, with nil as an empty list.
func same(a, b api.Manifest) bool {
	return record.Same(a.Rec, b.Rec) && slices.Equal(a.Pins, b.Pins) && slices.Equal(a.Holds, b.Holds)
}

// some is m as a text, shortened.
func some(m api.Manifest) string {
	return fmt.Sprintf("%.400q", fmt.Sprintf("%+v", m))
}

// checkFault holds Check and Print against a manifest that they refuse.
func checkFault(t *testing.T, m api.Manifest, want api.Errno, at int) {
	t.Helper()
	if err, i := Check(m); err != want || i != at {
		t.Errorf("Check(%s): %v, %d; want %v, %d", some(m), err, i, want, at)
	}
	if s, err := Print(m); err != want || s != "" {
		t.Errorf("Print(%s): %.60q, %v; want %v", some(m), s, err, want)
	}
}

// checkGood holds all functions against a valid manifest, whose string is s.
func checkGood(t *testing.T, m api.Manifest, s string) {
	t.Helper()
	if err, at := Check(m); err != api.OK || at != 0 {
		t.Errorf("Check(%s): %v, %d", some(m), err, at)
	}
	if got, err := Print(m); err != api.OK || got != s {
		t.Errorf("Print(%s): %q, %v; want %q", some(m), got, err, s)
	}
	if p, err, at := Parse(s); err != api.OK || at != 0 || !same(p, m) {
		t.Errorf("Parse(%q): %s, %v, %d; want %s", s, some(p), err, at, some(m))
	}
}

// checkAny holds all functions against second ones, and reports whether m is valid.
func checkAny(t *testing.T, m api.Manifest) bool {
	t.Helper()
	err, at := faultOf(m)
	if err != api.OK {
		checkFault(t, m, err, at)
	} else {
		checkGood(t, m, textOf(m))
	}
	return err == api.OK
}

// checkRefused holds Parse against a string that it refuses.
func checkRefused(t *testing.T, s string, want api.Errno, at int) {
	t.Helper()
	m, err, i := Parse(s)
	if err != want || i != at || !reflect.DeepEqual(m, api.Manifest{}) {
		t.Errorf("Parse(%.400q): %s, %v, %d; want %v, %d", s, some(m), err, i, want, at)
	}
}

// checkParse holds Parse against a second one, and Print of what is read against s. It
// reports whether s is the string of a manifest.
func checkParse(t *testing.T, s string) bool {
	t.Helper()
	want, err, at := parseOf(s)
	if err != api.OK {
		checkRefused(t, s, err, at)
	} else {
		checkGood(t, want, s)
	}
	return err == api.OK
}

// The strings of some records. The lines of rich hold the words of the lines that can
// follow a record.
const (
	plain = "package app 1.0.0\n"
	rich  = "package app 1.2.3-rc.1+b.7\nneed\nany pin - full >=1, <2 || =3.1.4\nany hold - bare *\n" +
		"need\nany zip best,fast bare ^1\nwhen os = pin\noption hold\nbar hold <1\nbar pin *\nwhen abi = hold\n" +
		"feature hold ?hold zip/pin\nfeature pin hold pin\n"
)

// baseText is the string of a manifest that has some of all.
const baseText = rich +
	"pin a-1 main\npin hold pin\npin zip side-2\n" +
	"hold app <2 || >=3.0.0-rc.1, !=3.5\nhold pin *\nhold zip =1.2.3\n"

// base is the manifest of baseText.
func base() api.Manifest {
	return api.Manifest{
		Rec:   rec(rich),
		Pins:  []api.Pin{{Name: "a-1", Shelf: "main"}, {Name: "hold", Shelf: "pin"}, {Name: "zip", Shelf: "side-2"}},
		Holds: []api.Hold{{Name: "app", Range: "<2 || >=3.0.0-rc.1, !=3.5"}, {Name: "pin", Range: "*"}, {Name: "zip", Range: "=1.2.3"}},
	}
}

// rec is the record of a string.
func rec(s string) api.Record {
	r, err, at := record.Parse(s)
	if err != api.OK {
		panic(fmt.Sprintf("%q: %v, %d", s, err, at))
	}
	return r
}

// next is the number of the line behind those of s.
func next(s string) int {
	return strings.Count(s, "\n") + 1
}

// many is a manifest of so many pins and holds.
func many(pins, holds int) api.Manifest {
	m := api.Manifest{Rec: rec(plain)}
	for i := range pins {
		m.Pins = append(m.Pins, api.Pin{Name: fmt.Sprintf("p%03d", i), Shelf: "main"})
	}
	for i := range holds {
		m.Holds = append(m.Holds, api.Hold{Name: fmt.Sprintf("h%03d", i), Range: "*"})
	}
	return m
}

// lines is what the string of many says behind the record.
func lines(pins, holds int) string {
	return strings.TrimPrefix(textOf(many(pins, holds)), plain)
}

// P16.1 to P16.3: the strings of some manifests, written out.
func TestTable(t *testing.T) {
	long := strings.Repeat("z", 16)
	for s, m := range map[string]api.Manifest{
		baseText:                base(),
		plain:                   {Rec: rec(plain)},
		rich:                    {Rec: rec(rich)},
		plain + "pin app app\n": {Rec: rec(plain), Pins: []api.Pin{{Name: "app", Shelf: "app"}}},
		plain + "pin pin pin\n": {Rec: rec(plain), Pins: []api.Pin{{Name: "pin", Shelf: "pin"}}},
		plain + "pin a hold\n":  {Rec: rec(plain), Pins: []api.Pin{{Name: "a", Shelf: "hold"}}},
		plain + "pin a main\npin a-1 main\npin a1 main\npin aa main\npin b main\n": {Rec: rec(plain), Pins: []api.Pin{
			{Name: "a", Shelf: "main"}, {Name: "a-1", Shelf: "main"}, {Name: "a1", Shelf: "main"}, {Name: "aa", Shelf: "main"}, {Name: "b", Shelf: "main"}}},
		plain + "hold app *\n":            {Rec: rec(plain), Holds: []api.Hold{{Name: "app", Range: "*"}}},
		plain + "hold hold ^1.2\n":        {Rec: rec(plain), Holds: []api.Hold{{Name: "hold", Range: "^1.2"}}},
		plain + "hold pin =1 || =2, <3\n": {Rec: rec(plain), Holds: []api.Hold{{Name: "pin", Range: "=1 || =2, <3"}}},
		plain + "hold a *\nhold b *, *\nhold c 1.*\n": {Rec: rec(plain), Holds: []api.Hold{
			{Name: "a", Range: "*"}, {Name: "b", Range: "*, *"}, {Name: "c", Range: "1.*"}}},
		plain + "pin z a\nhold a =0.0.0-0\n": {Rec: rec(plain), Pins: []api.Pin{{Name: "z", Shelf: "a"}}, Holds: []api.Hold{{Name: "a", Range: "=0.0.0-0"}}},
		plain + "pin " + long + " " + long + "\nhold " + long + " " + wide + "\n": {Rec: rec(plain),
			Pins: []api.Pin{{Name: long, Shelf: long}}, Holds: []api.Hold{{Name: long, Range: wide}}},
		"package pin 0.0.0\npin pin pin\nhold hold *\n": {Rec: api.Record{Name: "pin"},
			Pins: []api.Pin{{Name: "pin", Shelf: "pin"}}, Holds: []api.Hold{{Name: "hold", Range: "*"}}},
	} {
		checkGood(t, m, s)
		if !checkParse(t, s) || !checkAny(t, m) {
			t.Errorf("a second function does not accept %q", s)
		}
	}
}

// turn makes one change to a manifest.
type turn struct {
	do  func(m *api.Manifest)
	err api.Errno
	at  int
}

// turns are changes to base, in the order of their errors.
func turns() []turn {
	l := []turn{
		{func(m *api.Manifest) { m.Rec.Name = "App" }, api.ErrName, 0},
		{func(m *api.Manifest) { m.Rec.V.Major = -1 }, api.ErrVersion, 0},
		{func(m *api.Manifest) { m.Rec.Needs = append(m.Rec.Needs, make([]api.Need, 7)...) }, api.ErrLong, 0},
		{func(m *api.Manifest) { m.Rec.Needs[0].Any = nil }, api.ErrNone, 0},
		{func(m *api.Manifest) { m.Rec.Needs[1].Any[0].Name = "app" }, api.ErrTwice, 1},
		{func(m *api.Manifest) { m.Rec.Bars[1].Range = "1" }, api.ErrRange, 1},
		{func(m *api.Manifest) { m.Rec.Features[0].Name = "zz" }, api.ErrFeature, 0},
		{func(m *api.Manifest) { m.Rec.Features[1].Of = []string{"pin/x"} }, api.ErrNeed, 1},
		{func(m *api.Manifest) { m.Pins = append(m.Pins, make([]api.Pin, 6)...) }, api.ErrLong, 0},
		{func(m *api.Manifest) { m.Holds = append(m.Holds, make([]api.Hold, 6)...) }, api.ErrLong, 0},
	}
	for i := range base().Pins {
		l = append(l, turn{func(m *api.Manifest) { m.Pins[i].Name = "A" }, api.ErrPin, i},
			turn{func(m *api.Manifest) { m.Pins[i].Shelf = "" }, api.ErrPin, i})
	}
	for i := range base().Holds {
		l = append(l, turn{func(m *api.Manifest) { m.Holds[i].Name = "-" }, api.ErrName, i},
			turn{func(m *api.Manifest) { m.Holds[i].Range = ">=1,<2" }, api.ErrRange, i})
	}
	return l
}

// P16.1, P16.2, R6: every error of Check with its index, alone and beside every later one.
func TestCheckOrder(t *testing.T) {
	l := turns()
	for i, x := range l {
		m := base()
		x.do(&m)
		checkFault(t, m, x.err, x.at)
		for _, y := range l[i+1:] {
			m := base()
			y.do(&m)
			x.do(&m)
			checkFault(t, m, x.err, x.at)
			checkAny(t, m)
		}
	}
	for i, x := range l {
		m := base()
		for _, y := range slices.Backward(l[i:]) {
			y.do(&m)
		}
		checkFault(t, m, x.err, x.at)
	}
	checkFault(t, api.Manifest{}, api.ErrName, 0)
	checkFault(t, api.Manifest{Rec: rec(plain), Pins: make([]api.Pin, 1)}, api.ErrPin, 0)
	checkFault(t, api.Manifest{Rec: rec(plain), Holds: make([]api.Hold, 1)}, api.ErrName, 0)
}

// P16.1: the errors of the record with their indexes, whatever pins and holds are.
func TestRecord(t *testing.T) {
	needs := func(n int, name string) []api.Need {
		return slices.Repeat([]api.Need{{Any: []api.Wish{{Name: name, Range: "*"}}}}, n)
	}
	for _, r := range []api.Record{
		{}, {Name: "a b"}, {Name: "app", V: api.Version{Patch: 10000}}, {Name: "app", V: api.Version{Pre: "01"}},
		{Name: "app", Needs: needs(9, "b")}, {Name: "app", Bars: make([]api.Bar, 9)},
		{Name: "app", Needs: append(needs(7, "b"), needs(1, "B")...)}, {Name: "app", Needs: append(needs(5, "b"), api.Need{})},
		{Name: "app", Needs: append(needs(3, "b"), needs(2, "app")...)},
		{Name: "app", Bars: append(slices.Repeat([]api.Bar{{Name: "b", Range: "*"}}, 7), api.Bar{Name: "c", Range: "*", When: "os"})},
		{Name: "app", Features: []api.Feature{{Name: "b"}, {Name: "a"}}},
		{Name: "app", Features: []api.Feature{{Name: "a"}, {Name: "b"}, {Name: "c", Of: []string{"?o"}}}},
		{Name: "app", Features: []api.Feature{{Name: "a"}, {Name: "b"}, {Name: "c"}, {Name: "d", Of: []string{"x/y"}}}},
		great(4097).Rec,
	} {
		err, at := record.Check(r)
		if err == api.OK {
			t.Errorf("the record %+v has no error", r)
		}
		for _, m := range []api.Manifest{{}, base(), {Pins: make([]api.Pin, 3)}, {Holds: make([]api.Hold, 3)}, many(9, 0), many(0, 9)} {
			m.Rec = r
			checkFault(t, m, err, at)
		}
	}
	// The indexes, written out for some.
	m := base()
	m.Rec = api.Record{Name: "app", Needs: append(needs(7, "b"), needs(1, "B")...)}
	checkFault(t, m, api.ErrName, 7)
	m.Rec = api.Record{Name: "app", Features: []api.Feature{{Name: "a"}, {Name: "b"}, {Name: "c", Of: []string{"?o"}}}}
	checkFault(t, m, api.ErrOption, 2)
}

// P16.1: the numbers of pins and of holds.
func TestNumbers(t *testing.T) {
	for p := range 12 {
		for h := range 12 {
			m := many(p, h)
			if p > 8 || h > 8 {
				checkFault(t, m, api.ErrLong, 0)
				checkRefused(t, textOf(m), api.ErrLong, 0)
			} else {
				checkGood(t, m, textOf(m))
			}
			checkAny(t, m)
			// More than there may be, and also wrong.
			if p > 8 || h > 8 {
				if p > 0 {
					m.Pins[0].Name = "P"
				}
				if h > 0 {
					m.Holds[0] = api.Hold{}
				}
				checkFault(t, m, api.ErrLong, 0)
			}
		}
	}
	checkFault(t, many(200, 0), api.ErrLong, 0)
	checkFault(t, many(0, 200), api.ErrLong, 0)
	checkRefused(t, plain+lines(200, 0), api.ErrLong, 0)
	checkRefused(t, plain+lines(0, 200), api.ErrLong, 0)
}

// noNames are strings that are not names.
var noNames = []string{"", "A", "1", "1a", "_", "a_b", "-", "-a", "a-", "a--b", " ", "a ", " a", "a b", "zz\n", "a\x00", "a.b", "a/b",
	"?a", "\u00e4", "\xff", "zzzzzzzzzzzzzzzzz"}

// P16.1: the names of pins and of shelves, and their order, at every place.
func TestPins(t *testing.T) {
	long := strings.Repeat("z", 16)
	good := []api.Pin{
		{Name: "a", Shelf: "main"}, {Name: "a-1", Shelf: "app"}, {Name: "a1", Shelf: "main"}, {Name: "app", Shelf: "z9"},
		{Name: "b", Shelf: "a"}, {Name: "b0", Shelf: "hold"}, {Name: "ba", Shelf: "main"}, {Name: long, Shelf: long},
	}
	of := func(l []api.Pin) api.Manifest { return api.Manifest{Rec: rec(plain), Pins: l, Holds: base().Holds} }
	for i := range good {
		checkGood(t, of(good[i:]), textOf(of(good[i:])))
		checkGood(t, of(good[:i]), textOf(of(good[:i])))
		for _, s := range noNames {
			l := slices.Clone(good)
			l[i].Name = s
			checkFault(t, of(l), api.ErrPin, i)
			checkFault(t, of(l[i:]), api.ErrPin, 0)
			l[i] = api.Pin{Name: good[i].Name, Shelf: s}
			checkFault(t, of(l), api.ErrPin, i)
			checkFault(t, of(l[i:]), api.ErrPin, 0)
		}
		for k := range i {
			l := slices.Clone(good)
			l[i], l[k] = l[k], l[i]
			checkFault(t, of(l), api.ErrPin, k+1) // the first one behind a greater Name
			checkFault(t, of([]api.Pin{good[i], good[k]}), api.ErrPin, 1)
			checkGood(t, of([]api.Pin{good[k], good[i]}), textOf(of([]api.Pin{good[k], good[i]})))
			l = slices.Clone(good)
			l[i].Name = l[k].Name
			checkFault(t, of(l), api.ErrPin, i)
		}
		if i > 0 {
			l := slices.Insert(slices.Clone(good[:7]), i, good[i-1])
			checkFault(t, of(l), api.ErrPin, i)
			checkAny(t, of(l))
		}
	}
	// The Shelves may have any order, also the same one.
	checkFault(t, of([]api.Pin{{Name: "a", Shelf: "m"}, {Name: "a", Shelf: "n"}}), api.ErrPin, 1)
	for _, shelves := range []string{"mm", "nm", "mn"} {
		m := of([]api.Pin{{Name: "a", Shelf: shelves[:1]}, {Name: "b", Shelf: shelves[1:]}})
		checkGood(t, m, textOf(m))
	}
}

// P16.1: the names and the ranges of holds, and their order, at every place.
func TestHolds(t *testing.T) {
	long := strings.Repeat("z", 16)
	good := []api.Hold{
		{Name: "a", Range: "*"}, {Name: "a-1", Range: "^1.2.3-rc.1"}, {Name: "a1", Range: "<1, >0 || =2"}, {Name: "app", Range: "=1.2.3"},
		{Name: "b", Range: "*"}, {Name: "b0", Range: "~0"}, {Name: "ba", Range: "1.*"}, {Name: long, Range: "!=0.0.0"},
	}
	of := func(l []api.Hold) api.Manifest { return api.Manifest{Rec: rec(plain), Pins: base().Pins, Holds: l} }
	for i := range good {
		checkGood(t, of(good[i:]), textOf(of(good[i:])))
		checkGood(t, of(good[:i]), textOf(of(good[:i])))
		for _, s := range noNames {
			l := slices.Clone(good)
			l[i].Name = s
			checkFault(t, of(l), api.ErrName, i)
			checkFault(t, of(l[i:]), api.ErrName, 0)
			l[i].Range = ""
			checkFault(t, of(l), api.ErrName, i)
		}
		for _, s := range []string{"", " ", "*,*", "* ", " *", "1", "1.2.3", "==1", "=1||=2", "=1 ||=2", ">=1,<2", ">=1,  <2", "x", "=01", "=1 =2", ",",
			"||", "* ||", "*, ", "=1.2.3+b", "*\n", "\n", "\x00", "\xff", ">= 1", "*, *, *, *, *, *, *", strings.Repeat("* || ", 6) + "*", strings.Repeat("=1, ", 60) + "=1",
			wide + "c"} {
			l := slices.Clone(good)
			l[i].Range = s
			checkFault(t, of(l), api.ErrRange, i)
			checkFault(t, of(l[i:]), api.ErrRange, 0)
			if i > 0 {
				l[i].Name = l[i-1].Name
				checkFault(t, of(l), api.ErrName, i)
			}
		}
		for k := range i {
			l := slices.Clone(good)
			l[i], l[k] = l[k], l[i]
			checkFault(t, of(l), api.ErrName, k+1)
			checkFault(t, of([]api.Hold{good[i], good[k]}), api.ErrName, 1)
			checkGood(t, of([]api.Hold{good[k], good[i]}), textOf(of([]api.Hold{good[k], good[i]})))
			l = slices.Clone(good)
			l[i].Name = l[k].Name
			checkFault(t, of(l), api.ErrName, i)
			l[k].Range = "?" // which stands earlier
			checkFault(t, of(l), api.ErrRange, k)
		}
		if i > 0 {
			checkFault(t, of(slices.Insert(slices.Clone(good[:7]), i, good[i-1])), api.ErrName, i)
		}
	}
}

// wrongLines are lines behind a record that have not the form of a pin or a hold, with
// the first word of one.
var wrongLines = []string{
	"pin", "pin ", "pin  ", "pin   ", "pin a", "pin a ", "pin a  ", "pin  a", "pin  b c", "pin a  b", "pin a b ", "pin a b c", "pin a b  ", "pin a b c ", "pin pin",
	"hold", "hold ", "hold  ", "hold   ", "hold a", "hold a ", "hold  *", "hold  a *", "hold *", "hold  ", "hold hold",
}

// otherLines are lines with another first word, which no record can have behind its
// features.
var otherLines = []string{
	"", " ", "  ", "x", "pins a b", "pi a b", "Pin a b", "PIN a b", " pin a b", "\tpin a b", "pin\ta b", "pin\r", "pin-a b", "pin\x00", "\x00pin a b", "pin,a b",
	"holds a *", "hol a *", "Hold a *", " hold a *", "hold\ta *", "hold\r", "held a *", "ho\xffld a *", "a pin b", "a hold *", "package app 1.0.0", "package", "need",
	"any b - full *", "when os = a", "option o", "bar b", "feature f x\x00 ", "shelf main", "entry a", "-", "*", "\xff", "\u00e9", "\xffpin a b",
}

// P16.2: lines without their form behind the record, at every place.
func TestForms(t *testing.T) {
	aheads := []string{plain, rich, plain + "pin x y\n", plain + "pin x y\nhold x *\n", plain + "hold x *\n", plain + "hold x *\nhold y *\n", baseText,
		plain + lines(8, 8)}
	ends := []string{"", "\n", "\n\n", "\nx", "\nx\n", "\npin a b\n", "\nhold a *\n", "\npin\n", "\nneed\n", "\npin b", "\nhold a"}
	for i, ahead := range aheads {
		for _, end := range ends {
			for _, line := range wrongLines {
				checkRefused(t, ahead+line+end, api.ErrForm, next(ahead))
				checkParse(t, ahead+line+end)
			}
			for _, line := range otherLines {
				if line+end == "" {
					continue
				}
				if checkParse(t, ahead+line+end) {
					t.Errorf("%q is read", ahead+line+end)
				}
				if i > 1 {
					checkRefused(t, ahead+line+end, api.ErrForm, next(ahead))
				}
			}
		}
		// Lines of records behind their place.
		for _, line := range []string{"need\n", "need\nany b - full *\n", "bar b *\n", "feature f\n", plain} {
			if i > 1 {
				checkRefused(t, ahead+line, api.ErrForm, next(ahead))
				checkRefused(t, ahead+line+"hold zz *\n", api.ErrForm, next(ahead))
			}
		}
		// A line that has its form, but no end.
		for _, line := range []string{"pin zz b", "hold zz *", "hold zz >=1, <2", "pin a b", "hold a *"} {
			checkRefused(t, ahead+line, api.ErrForm, next(ahead))
		}
	}
	// Behind a record without features, other words are its own lines, or wrong ones.
	for _, line := range otherLines {
		s := plain + line + "\npin a b\n"
		if line != "need" {
			checkRefused(t, s, api.ErrForm, 2)
		}
		checkParse(t, s)
	}
}

// P16.2: a line of a pin behind one of a hold.
func TestPinAfterHold(t *testing.T) {
	for n := 1; n < 4; n++ {
		for k := range 4 {
			s := plain + lines(k, n)
			checkGood(t, many(k, n), s)
			for _, line := range []string{"pin z a\n", "pin p000 main\n", "pin A B\n", "pin a b", "pin"} {
				checkRefused(t, s+line, api.ErrForm, next(s))
				checkRefused(t, s+line+"x\n", api.ErrForm, next(s))
				checkRefused(t, s+line+"\nhold z *\n", api.ErrForm, next(s))
			}
		}
	}
	// Holds that Check refuses are lines of holds, too.
	checkRefused(t, plain+"hold A ?\npin a b\n", api.ErrForm, 3)
	checkRefused(t, plain+lines(0, 9)+"pin a b\n", api.ErrForm, 11)
	checkRefused(t, plain+"hold A ?\nhold B ?\n", api.ErrName, 0)
}

// P16.2: which lines belong to the record, and that its errors come first.
func TestRecordLines(t *testing.T) {
	for _, c := range []struct {
		own string
		err api.Errno
		at  int
	}{
		{"", api.ErrForm, 1}, {"\n", api.ErrForm, 1}, {"x\n", api.ErrForm, 1}, {"package app\n", api.ErrForm, 1}, {"package app 1.0\n", api.ErrForm, 1},
		{plain + "need x\n", api.ErrForm, 2}, {plain + "any b - full *\n", api.ErrForm, 2}, {plain + "bar b *\nneed\n", api.ErrForm, 3}, {plain + "\n", api.ErrForm, 2},
		{plain + "pins a b\n", api.ErrForm, 2}, {plain + " pin a b\n", api.ErrForm, 2}, {plain + "holding a *\n", api.ErrForm, 2}, {rich + "need\n", api.ErrForm, next(rich)},
		{plain + "need\n", api.ErrNone, 0}, {"package App 1.0.0\n", api.ErrName, 0}, {"package pin- 1.0.0\n", api.ErrName, 0}, {plain + "bar b 1\n", api.ErrRange, 0},
		{plain + "need\nany b - full *\nneed\nany app - full *\n", api.ErrTwice, 0}, {plain + "feature f ?o\n", api.ErrOption, 0}, {plain + "feature f x/y\n", api.ErrNeed, 0},
		{plain + "feature g\nfeature f\n", api.ErrFeature, 0}, {plain + "bar b *\nwhen x\n", api.ErrMark, 0}, {plain + strings.Repeat("bar b *\n", 9), api.ErrLong, 0},
		{strings.Repeat("x", 4096) + "\n", api.ErrLong, 0}, {strings.Repeat("x\n", 2048), api.ErrForm, 1}, {plain + strings.Repeat("\n", 4096), api.ErrLong, 0},
	} {
		for _, rest := range []string{"pin a b\n", "hold a *\n", "pin\n", "hold\n", "pin", "hold", "pin ", "hold ", "pin a b", "hold a *", "pin A b\n", "hold a 1\n",
			"pin a b\nx\n", "hold a *\npin a b\n", "pin a b\nneed\nany b - full *\n", lines(9, 0), lines(0, 9), "pin a b\nbar c *\n", baseText[len(rich):] + "x"} {
			checkRefused(t, c.own+rest, c.err, c.at)
			checkParse(t, c.own+rest)
		}
		checkRefused(t, c.own, c.err, c.at)
	}
	// What stands behind the first line of a pin or a hold is none of the record's.
	for _, word := range []string{"pin a b\n", "hold a *\n"} {
		checkRefused(t, plain+"need\n"+word+"any b - full *\n", api.ErrNone, 0)
		checkRefused(t, plain+"need\nany b - full *\n"+word+"option o\n", api.ErrForm, 5)
		checkRefused(t, word+plain, api.ErrForm, 1)
		checkRefused(t, word+plain+word, api.ErrForm, 1)
		checkRefused(t, plain+word+plain, api.ErrForm, 3)
		// Each line counts, those of the record too.
		checkRefused(t, rich+word+"x\n", api.ErrForm, 15)
	}
}

// P16.2: strings of the right form which Check refuses.
func TestLeft(t *testing.T) {
	for _, c := range []struct {
		rest string
		err  api.Errno
	}{
		{"pin A b\n", api.ErrPin}, {"pin a B\n", api.ErrPin}, {"pin - b\n", api.ErrPin}, {"pin a b-\n", api.ErrPin}, {"pin a b\r\n", api.ErrPin}, {"pin a\tb c\n", api.ErrPin},
		{"pin a \x00\n", api.ErrPin}, {"pin \xff b\n", api.ErrPin}, {"pin b x\npin a x\n", api.ErrPin}, {"pin a x\npin a x\n", api.ErrPin}, {"pin a x\npin b x\npin b y\n", api.ErrPin},
		{"pin aaaaaaaaaaaaaaaaa b\n", api.ErrPin}, {"pin a bbbbbbbbbbbbbbbbb\n", api.ErrPin}, {"pin a B\nhold A *\n", api.ErrPin}, {"pin a b\nhold A *\n", api.ErrName},
		{"hold A *\n", api.ErrName}, {"hold - *\n", api.ErrName}, {"hold \xff *\n", api.ErrName}, {"hold b *\nhold a *\n", api.ErrName}, {"hold a *\nhold a *\n", api.ErrName},
		{"hold aaaaaaaaaaaaaaaaa *\n", api.ErrName}, {"hold a  \n", api.ErrRange}, {"hold a   \n", api.ErrRange}, {"hold a  *\n", api.ErrRange}, {"hold a * \n", api.ErrRange},
		{"hold a *\r\n", api.ErrRange}, {"hold a *\t\n", api.ErrRange}, {"hold a 1\n", api.ErrRange}, {"hold a *,*\n", api.ErrRange}, {"hold a b *\n", api.ErrRange}, {"hold a \xff\n", api.ErrRange},
		{"hold a pin a b\n", api.ErrRange}, {"hold a 1\nhold B *\n", api.ErrRange}, {"hold a *\nhold B 1\n", api.ErrName}, {"hold a *\nhold b 1\n", api.ErrRange},
		{"hold a " + strings.Repeat("*, ", 32) + "*\n", api.ErrRange}, {"hold a " + strings.Repeat("x", 97) + "\n", api.ErrRange}, {"hold a ^1, ^2, ^3, ^4, ^5, ^6, ^7\n", api.ErrRange},
		{lines(9, 0), api.ErrLong}, {lines(0, 9), api.ErrLong}, {strings.Repeat("pin A B\n", 9), api.ErrLong}, {strings.Repeat("hold A ?\n", 9), api.ErrLong},
		{"pin A B\n" + lines(0, 9), api.ErrLong}, {lines(8, 0) + "hold A *\n", api.ErrName}, {lines(8, 0) + "pin p000 main\n", api.ErrLong},
	} {
		for _, own := range []string{plain, rich} {
			checkRefused(t, own+c.rest, c.err, 0)
			checkRefused(t, own+c.rest+"x", api.ErrForm, next(own+c.rest)) // all forms come before Check
			checkRefused(t, own+c.rest+"hold\n", api.ErrForm, next(own+c.rest))
			checkParse(t, own+c.rest)
		}
	}
}

// P16.2: every beginning and every end of a string.
func TestEnds(t *testing.T) {
	for _, s := range []string{baseText, plain + "pin a b\nhold a *\n", plain + lines(8, 8)} {
		good := 0
		for i := range len(s) + 1 {
			if checkParse(t, s[:i]) {
				good++
			}
			checkParse(t, s[i:])
			checkParse(t, plain+s[i:])
			if i >= len(plain) && s[i-1] != '\n' {
				checkRefused(t, s[:i], api.ErrForm, next(s[:i]))
			}
		}
		if good < 3 {
			t.Errorf("of %q, %d beginnings are read", s, good)
		}
		for b := range 256 {
			checkRefused(t, s+string([]byte{byte(b)}), api.ErrForm, next(s))
		}
	}
}

// wide is a range with a string of as many bytes as it may have.
const wide = "=1000.1000.1000-abcdefgh, =1000.1000.1000-abcdefgh, =1000.1000.1000-abcdefgh, =1000.1000.1000-ab"

// great is a manifest whose record has a string of n bytes, with pins and holds of as many
// bytes as they may have.
func great(n int) api.Manifest {
	const name = "abcdefghijklmno"
	m := api.Manifest{Rec: rec(plain)}
	for i := range 8 {
		m.Rec.Needs = append(m.Rec.Needs, api.Need{Any: slices.Repeat([]api.Wish{{Name: name + "p", Range: wide}}, 3)})
		m.Rec.Bars = append(m.Rec.Bars, api.Bar{Name: name + "p", Range: wide})
		m.Pins = append(m.Pins, api.Pin{Name: fmt.Sprint(name, i), Shelf: name + "p"})
		m.Holds = append(m.Holds, api.Hold{Name: fmt.Sprint(name, i), Range: wide})
		if i < 7 {
			m.Rec.Features = append(m.Rec.Features, api.Feature{Name: fmt.Sprint("f", i)})
		}
	}
	s, _ := record.Print(m.Rec)
	last := strings.Repeat("z", n-len(s)-len("feature \n"))
	m.Rec.Features = append(m.Rec.Features, api.Feature{Name: last})
	return m
}

// P16.1 to P16.3: the longest strings of a record, and of a manifest.
func TestGreat(t *testing.T) {
	for n := 4090; n < 4100; n++ {
		m := great(n)
		if n > 4096 {
			checkFault(t, m, api.ErrLong, 0)
			continue
		}
		s := textOf(m)
		checkGood(t, m, s)
		if len(s) != n+8*(4+16+1+16+1)+8*(5+16+1+96+1) {
			t.Errorf("the string of a record of %d bytes and its lines has %d", n, len(s))
		}
		if !checkParse(t, s) || checkParse(t, s+s) || checkParse(t, s[:len(s)-1]) {
			t.Errorf("the second Parse of %d bytes", len(s))
		}
		// One byte more than the record may have.
		longer := strings.Replace(s, "feature z", "feature "+strings.Repeat("z", 4098-n), 1)
		checkRefused(t, longer, api.ErrLong, 0)
	}
}

// P16.2: the numbers of bytes of the whole string and of the record's.
func TestBytes(t *testing.T) {
	pad := func(s string, n int) string { return s + strings.Repeat("x", n-len(s)) }
	for _, n := range []int{8180, 8191, 8192} {
		checkRefused(t, pad("", n), api.ErrLong, 0) // of the record
		checkRefused(t, pad(plain, n), api.ErrLong, 0)
		checkRefused(t, pad("pin ", n), api.ErrForm, 1)
		checkRefused(t, pad(plain+"pin a ", n), api.ErrForm, 2)
		checkRefused(t, pad(plain+"hold a *\n", n), api.ErrForm, 3)
		checkRefused(t, pad(plain+"pin a ", n-1)+"\n", api.ErrPin, 0)
		checkRefused(t, pad(plain+"hold a ", n-1)+"\n", api.ErrRange, 0)
		checkRefused(t, pad(plain+"hold ", n-3)+" *\n", api.ErrName, 0)
		checkRefused(t, pad(plain+"need\nhold ", n-3)+" *\n", api.ErrNone, 0)
	}
	for _, n := range []int{8193, 8194, 10000, 1 << 20} {
		for _, s := range []string{"", plain, plain + "pin a ", plain + "hold a *\n", "pin ", plain + "need\n", baseText} {
			checkRefused(t, pad(s, n), api.ErrLong, 0)
			checkRefused(t, pad(s, n-1)+"\n", api.ErrLong, 0)
		}
	}
	// Of the record's string alone.
	for n := 4080; n < 4110; n++ {
		own, want := pad(plain+"bar b ", n-1)+"\n", api.ErrRange
		if n > 4096 {
			want = api.ErrLong
		}
		for _, rest := range []string{"", "pin a b\n", "hold a *\n", "pin", "hold", "hold a " + strings.Repeat("x", 3000) + "\n"} {
			checkRefused(t, own+rest, want, 0)
			checkParse(t, own+rest)
		}
	}
}

// P16.2, P16.3: all sequences of up to six lines out of some.
func TestSequences(t *testing.T) {
	pieces := []string{plain, "bar pin *\n", "pin a m\n", "pin b n\n", "hold a *\n", "hold b =1 || =2\n", "x\n"}
	level, good := []string{""}, 0
	for range 6 {
		var longer []string
		for _, s := range level {
			for _, piece := range pieces {
				longer = append(longer, s+piece)
			}
		}
		for _, s := range longer {
			if checkParse(t, s) {
				good++
			}
			if t.Failed() {
				return // as thousands of strings would be told
			}
		}
		level = longer
	}
	// Zero to five bars, with each choice of the other four lines, in at most six lines.
	if good != 16+16+15+11+5+1 {
		t.Errorf("%d strings are read", good)
	}
}

// P16.2, P16.3: the string of a manifest with one byte changed, left out or put in.
func TestEveryByte(t *testing.T) {
	const s = "package ab 0.1.0\nbar c *\npin a m\npin b-1 n\nhold a =1 || <2\nhold b *\n"
	good := 0
	for i := range len(s) + 1 {
		for b := range 256 {
			c := string([]byte{byte(b)})
			l := []string{s[:i] + c + s[i:]}
			if i < len(s) {
				l = append(l, s[:i]+c+s[i+1:])
			}
			if i < len(s) && b == 0 {
				l = append(l, s[:i]+s[i+1:], s[:i]+s[i:i+1]+s[i:])
			}
			for _, changed := range l {
				if checkParse(t, changed) {
					good++
				}
			}
			if t.Failed() {
				return
			}
		}
	}
	if good < 500 {
		t.Errorf("only %d strings are read", good)
	}
}

// sample is a random manifest, mostly a valid one.
func sample(r *rand.Rand) api.Manifest {
	names := []string{"a", "a-1", "a1", "app", "hold", "pin", "z9"}
	ranges := []string{"*", "^1.2", "<1 || >=2, !=3.1.4-rc.1", "=1"}
	m := api.Manifest{Rec: rec([]string{plain, rich}[r.Intn(2)])}
	for _, name := range names {
		if r.Intn(2) == 0 {
			m.Pins = append(m.Pins, api.Pin{Name: name, Shelf: names[r.Intn(len(names))]})
		}
		if r.Intn(2) == 0 {
			m.Holds = append(m.Holds, api.Hold{Name: name, Range: ranges[r.Intn(len(ranges))]})
		}
	}
	if n := len(m.Pins); n > 0 && r.Intn(8) == 0 {
		m.Pins[r.Intn(n)] = api.Pin{Name: names[r.Intn(len(names))], Shelf: noNames[r.Intn(len(noNames))]}
	}
	if n := len(m.Holds); n > 0 && r.Intn(8) == 0 {
		m.Holds[r.Intn(n)] = api.Hold{Name: names[r.Intn(len(names))], Range: "1"}
	}
	if r.Intn(16) == 0 {
		m.Rec.Bars = append(m.Rec.Bars, api.Bar{Name: "app"})
	}
	return m
}

// P16.1 to P16.3, T3: random manifests, and their strings.
func TestRandom(t *testing.T) {
	r := rand.New(rand.NewSource(1))
	good := 0
	for i := 0; i < 8000 && !t.Failed(); i++ {
		m := sample(r)
		if checkAny(t, m) {
			good++
		}
		checkParse(t, textOf(m))
	}
	if good < 4000 || good == 8000 {
		t.Errorf("%d manifests are valid", good)
	}
}

// P16.2, P16.3: random strings with random lines among them.
func TestRandomLines(t *testing.T) {
	r := rand.New(rand.NewSource(2))
	odd := slices.Concat(wrongLines, otherLines, []string{"pin b x", "pin aa aa", "hold b *", "hold aa <2", "bar c *", "need"})
	good := 0
	for i := 0; i < 20000 && !t.Failed(); i++ {
		s := textOf(sample(r))
		for range r.Intn(3) {
			at := strings.LastIndex(s[:r.Intn(len(s)+1)], "\n") + 1
			s = s[:at] + odd[r.Intn(len(odd))] + "\n" + s[at:]
		}
		if checkParse(t, s) {
			good++
		}
	}
	if good < 4000 {
		t.Errorf("only %d strings are read", good)
	}
}

// P16.2, P16.3, T3: random bytes, and beginnings of strings with ends of others.
func TestRandomBytes(t *testing.T) {
	r := rand.New(rand.NewSource(3))
	const letters = "pin hold  a*\n\n\n=1,|\xff\x00"
	for i := 0; i < 8000 && !t.Failed(); i++ {
		b := make([]byte, r.Intn(40))
		for i := range b {
			b[i] = letters[r.Intn(len(letters))]
		}
		checkParse(t, string(b))
		checkParse(t, plain+string(b))
		checkParse(t, plain+"pin "+string(b))
		checkParse(t, plain+"hold "+string(b))
		one, two := textOf(sample(r)), textOf(sample(r))
		checkParse(t, one[:r.Intn(len(one)+1)]+two[r.Intn(len(two)+1):])
	}
}

// texts are the strings of m, without those within its record's lists.
func texts(m api.Manifest) []string {
	l := []string{m.Rec.Name, m.Rec.V.Pre, m.Rec.V.Build}
	for _, p := range m.Pins {
		l = append(l, p.Name, p.Shelf)
	}
	for _, h := range m.Holds {
		l = append(l, h.Name, h.Range)
	}
	return l
}

// overlap reports whether two strings share memory.
func overlap(a, b string) bool {
	x, y := uintptr(unsafe.Pointer(unsafe.StringData(a))), uintptr(unsafe.Pointer(unsafe.StringData(b)))
	return a != "" && b != "" && x < y+uintptr(len(b)) && y < x+uintptr(len(a))
}

// R4 for P16.2: results are new memory, and no two lists of one share any.
func TestMemory(t *testing.T) {
	for _, s := range []string{baseText, plain, plain + "pin a b\n", plain + "hold a *\n", textOf(great(4096))} {
		s = strings.Clone(s)
		a, _, _ := Parse(s)
		b, _, _ := Parse(s)
		c, _ := Print(a)
		d, err := Print(a)
		if err != api.OK || c != s || d != s || !same(a, b) {
			t.Fatalf("%.400q: %.400q, %.400q, %v", s, c, d, err)
		}
		all := slices.Concat([]string{s, c, d}, texts(a), texts(b))
		for i, x := range all {
			if slices.ContainsFunc(all[:i], func(y string) bool { return overlap(x, y) }) {
				t.Errorf("of the results for %.400q, %.100q shares memory", s, x)
			}
		}
		a.Rec.Needs = append(a.Rec.Needs, api.Need{Option: "x"})
		a.Pins = append(a.Pins, api.Pin{Name: "x"})
		a.Holds = append(a.Holds, api.Hold{Name: "x"})
		a.Pins[0], a.Holds[0] = api.Pin{}, api.Hold{}
		checkGood(t, b, s)
	}
	if x := "xy"; !overlap(x, x) || !overlap(x, x[1:]) || overlap(x[1:], x[:1]) {
		t.Error("overlap")
	}
}

// R4 for P16.1 and P16.2: a manifest stays as it is, with what lies behind its lists.
func TestArgument(t *testing.T) {
	for _, wrong := range []bool{false, true} {
		m := base()
		m.Pins = append(m.Pins, api.Pin{Name: "behind"})[:3]
		m.Holds = append(m.Holds, api.Hold{Name: "behind"})[:3]
		m.Rec.Needs = append(m.Rec.Needs, api.Need{Option: "behind"})[:2]
		m.Rec.Bars = append(m.Rec.Bars, api.Bar{Name: "behind"})[:2]
		if wrong {
			m.Holds[2].Range = "1"
		}
		was := fmt.Sprintf("%+v", m)
		checkAny(t, m)
		if is := fmt.Sprintf("%+v", m); is != was {
			t.Errorf("the argument became %s", is)
		}
		if m.Pins[:4][3].Name != "behind" || m.Holds[:4][3].Name != "behind" || m.Rec.Needs[:3][2].Option != "behind" || m.Rec.Bars[:3][2].Name != "behind" {
			t.Error("what lies behind the lists was changed")
		}
	}
	// An empty list is the same as nil.
	m := api.Manifest{Rec: rec(plain), Pins: []api.Pin{}, Holds: []api.Hold{}}
	m.Rec.Needs, m.Rec.Bars, m.Rec.Features = []api.Need{}, []api.Bar{}, []api.Feature{}
	checkGood(t, m, plain)
}

// R5 for P16.1 and P16.2: several goroutines may call the functions at the same time.
func TestTogether(t *testing.T) {
	wrong := make(chan string)
	m := base()
	for i := range 8 {
		go func() {
			var told string
			own := plain + lines(i, 8-i)
			for range 100 {
				fault, at := Check(m)
				a, err := Print(m)
				b, refused, line := Parse(baseText)
				c, _, _ := Parse(own)
				_, _, none := Parse(own + "x\n")
				if fault != api.OK || at != 0 || err != api.OK || a != baseText || refused != api.OK || line != 0 || !same(b, m) ||
					len(c.Pins) != i || len(c.Holds) != 8-i || none != 10 {
					told = "a result depends on other calls"
				}
			}
			wrong <- told
		}()
	}
	for range 8 {
		if told := <-wrong; told != "" {
			t.Error(told)
		}
	}
}

// R1 for P16.1 and P16.2: arguments of any length and any bytes.
func TestLong(t *testing.T) {
	start := time.Now()
	for _, b := range []string{"a", "0", " ", "-", "\n", "\x00", "\xff", "pin", "hold", "pin ", "hold ", "pin a b\n", "hold a *\n", "pin\n", "hold\n", plain, baseText} {
		for _, s := range []string{b, plain + b, plain + "pin " + b, plain + "hold a " + b} {
			checkParse(t, s+strings.Repeat(b, (8192-len(s))/len(b)))
			checkRefused(t, s+strings.Repeat(b, 1<<22/len(b)), api.ErrLong, 0)
		}
		long := strings.Repeat(b, 1<<22/len(b))
		for at, change := range []func(m *api.Manifest){
			func(m *api.Manifest) { m.Rec.Name = long },
			func(m *api.Manifest) { m.Pins[2].Name = long },
			func(m *api.Manifest) { m.Pins[2].Shelf = long },
			func(m *api.Manifest) { m.Holds[2].Name = long },
			func(m *api.Manifest) { m.Holds[2].Range = long },
		} {
			m := base()
			change(&m)
			want := []api.Errno{api.ErrName, api.ErrPin, api.ErrPin, api.ErrName, api.ErrRange}[at]
			checkFault(t, m, want, min(at*2, 2))
		}
	}
	m := base()
	m.Pins = make([]api.Pin, 1<<22)
	checkFault(t, m, api.ErrLong, 0)
	m = base()
	m.Holds = make([]api.Hold, 1<<22)
	checkFault(t, m, api.ErrLong, 0)
	if took := time.Since(start); took > 30*time.Second {
		t.Errorf("long arguments took %v", took)
	}
}

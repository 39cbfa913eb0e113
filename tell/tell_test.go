package tell

import (
	"math"
	"math/rand"
	"regexp"
	"slices"
	"strings"
	"testing"
	"time"
	"unsafe"

	"linchpin/api"
	"linchpin/cut"
	"linchpin/row"
	"linchpin/set"
	"linchpin/version"
)

var (
	low  = api.Cut{End: -1}
	high = api.Cut{End: 1}
)

// place is a cut, and its parts as From and as To.
type place struct {
	c        api.Cut
	from, to string
}

// rels are cuts that may stand in Rel, each before the next one.
var rels = []place{
	{low, "", ""},
	{before("0.0.1"), ">=0.0.1", "<0.0.1"},
	{before("0.10.0"), ">=0.10.0", "<0.10.0"},
	{before("1.0.0"), ">=1.0.0", "<1.0.0"},
	{before("1.0.1"), ">=1.0.1", "<1.0.1"},
	{before("9999.9999.9999"), ">=9999.9999.9999", "<9999.9999.9999"},
	{high, "", ""},
}

// pres are cuts of Pre, each before the next one.
var pres = []place{
	{low, "", ""},
	{before("0.0.0"), ">=0.0.0", "<0.0.0"},
	{before("1.0.0-or"), ">=1.0.0-or", "<1.0.0-or"},
	{after("1.0.0-or"), ">1.0.0-or", "<=1.0.0-or"},
	{before("1.0.0"), ">=1.0.0", "<1.0.0"},
	{after("1.0.0"), ">1.0.0", "<=1.0.0"},
	{before("1.0.1-a.10.b-c.-"), ">=1.0.1-a.10.b-c.-", "<1.0.1-a.10.b-c.-"},
	{after("9999.9999.9999"), ">9999.9999.9999", "<=9999.9999.9999"},
	{high, "", ""},
}

// before is the cut before the version whose string is s.
func before(s string) api.Cut {
	v, err := version.Parse(s)
	if err != api.OK {
		panic(s)
	}
	return api.Cut{V: v}
}

// after is the cut after the version whose string is s.
func after(s string) api.Cut {
	c := before(s)
	c.After = true
	return c
}

// span is the row of the one span between two cuts.
func span(from, to api.Cut) []api.Span {
	return []api.Span{{From: from, To: to}}
}

// part is the row of the parts between some places that the bits of n name, and
// its string.
func part(l []place, n int) ([]api.Span, string) {
	var spans []api.Span
	var text []string
	for i := 0; i < len(l)-1; i++ {
		if n>>i&1 == 0 {
			continue
		}
		k := i + 1
		for k < len(l)-1 && n>>k&1 == 1 {
			k++
		}
		spans = append(spans, api.Span{From: l[i].c, To: l[k].c})
		s := strings.TrimSpace(l[i].from + " " + l[k].to)
		if s == "" {
			s = "*"
		}
		text = append(text, s)
		i = k
	}
	if len(text) == 0 {
		return nil, "-"
	}
	return spans, strings.Join(text, " or ")
}

// checkBoth holds Print and Parse against a valid set and its string.
func checkBoth(t *testing.T, x api.Set, s string) {
	t.Helper()
	if got := Print(x); got != s {
		t.Errorf("Print(%+v): %q; want %q", x, got, s)
	}
	if got, err := Parse(s); err != api.OK || !set.Same(got, x) {
		t.Errorf("Parse(%q): %+v, %v; want %+v", s, got, err, x)
	}
}

// checkNone holds Parse against a string that no valid set has.
func checkNone(t *testing.T, s string) {
	t.Helper()
	if x, err := Parse(s); err != api.ErrForm || len(x.Rel) != 0 || len(x.Pre) != 0 {
		t.Errorf("Parse(%q): %+v, %v", s, x, err)
	}
}

// P8.1: sets and their strings.
func TestStrings(t *testing.T) {
	for s, x := range map[string]api.Set{
		"-":                   {},
		"*":                   {Rel: span(low, high)},
		"- / *":               {Pre: span(low, high)},
		"* / *":               {Rel: span(low, high), Pre: span(low, high)},
		">=1.2.3":             {Rel: span(before("1.2.3"), high)},
		"<1.2.3":              {Rel: span(low, before("1.2.3"))},
		">=1.2.3 <1.2.4":      {Rel: span(before("1.2.3"), before("1.2.4"))},
		"<0.0.1":              {Rel: span(low, before("0.0.1"))},
		"- / >=1.2.3":         {Pre: span(before("1.2.3"), high)},
		"- / >1.2.3":          {Pre: span(after("1.2.3"), high)},
		"- / <1.2.3":          {Pre: span(low, before("1.2.3"))},
		"- / <=1.2.3":         {Pre: span(low, after("1.2.3"))},
		"- / >=1.2.3 <=1.2.3": {Pre: span(before("1.2.3"), after("1.2.3"))},
		"- / >1.2.3 <1.2.4":   {Pre: span(after("1.2.3"), before("1.2.4"))},
		"- / >1.2.3 <=1.2.4":  {Pre: span(after("1.2.3"), after("1.2.4"))},
		"- / >=1.2.3 <1.2.4":  {Pre: span(before("1.2.3"), before("1.2.4"))},
		"- / >=0.0.0":         {Pre: span(before("0.0.0"), high)},
		"- / <0.0.0":          {Pre: span(low, before("0.0.0"))},
		"- / <0.0.0-0":        {Pre: span(low, before("0.0.0-0"))},
		"- / >9999.9999.9999": {Pre: span(after("9999.9999.9999"), high)},
		"- / >=1.2.3-rc.1 <=1.2.3-rc.10 or >1.2.3-rc.a <1.2.3": {
			Pre: slices.Concat(span(before("1.2.3-rc.1"), after("1.2.3-rc.10")), span(after("1.2.3-rc.a"), before("1.2.3")))},
		"<1.0.0 or >=2.0.0": {Rel: slices.Concat(span(low, before("1.0.0")), span(before("2.0.0"), high))},
		"<1.0.0 or >=1.0.1 <2.0.0 or >=9999.0.0 / <1.0.0-or or >1.0.0-or": {
			Rel: slices.Concat(span(low, before("1.0.0")), span(before("1.0.1"), before("2.0.0")), span(before("9999.0.0"), high)),
			Pre: slices.Concat(span(low, before("1.0.0-or")), span(after("1.0.0-or"), high))},
		"* / >=0.0.0-a.b-c.0.9999 <=0.0.0-abcdefgh.abcdefgh.abcdefgh.-": {
			Rel: span(low, high), Pre: span(before("0.0.0-a.b-c.0.9999"), after("0.0.0-abcdefgh.abcdefgh.abcdefgh.-"))},
	} {
		checkBoth(t, x, s)
	}
	for _, x := range []api.Set{set.None(), {Rel: []api.Span{}}, {Pre: []api.Span{}}, {Rel: []api.Span{}, Pre: []api.Span{}}} {
		checkBoth(t, x, "-")
	}
	checkBoth(t, api.Set{Rel: span(low, high), Pre: []api.Span{}}, "*")
	checkBoth(t, api.Set{Rel: []api.Span{}, Pre: span(low, high)}, "- / *")
}

// P8.1: strings that no valid set has.
func TestNoStrings(t *testing.T) {
	for _, s := range []string{
		"", " ", "/", " / ", " / / ", "or", " or ", "/ *", " / *", "* /", "* / ", "*/*", "* /*", "*/ *", "*  / *", "* /  *",
		"* // *", "*\t/\t*", "* / * / *", "* / * / -", "- / ", "-/*", "- / -", "* / -", "<1.0.0 / -", "- / - / *", "- / * / ",
		"--", "- -", " -", "- ", "-\n", "*\n", "\n*", " *", "* ", "**", "* *", "*,*", "* or *", "* or -", "- or *", "- or -", "- / - or *",
		"- / * or -", "- or <1.0.0", "<1.0.0 or -", "<1.0.0 or", "or <1.0.0", "<1.0.0 or ", " or <1.0.0", "<1.0.0 or  or >=2.0.0",
		"<1.0.0 or or >=2.0.0", "* or <1.0.0", "<1.0.0 or *", "* <1.0.0", ">=1.0.0 *", "* >=1.0.0", "<1.0.0 *", "*<1.0.0", ">=*", "<*",
		">=", ">", "<", "<=", ">= <", ">=1.0.0 <", "> <2.0.0", ">= 1.0.0", "< 1.0.0", "1.0.0", "=1.0.0", "==1.0.0", "=<1.0.0", "=>1.0.0",
		"<>1.0.0", "><1.0.0", ">>1.0.0", "<<1.0.0", "<==1.0.0", ">==1.0.0", "!=1.0.0", "^1.0.0", "~1.0.0", ">=1", ">=1.0", ">=1.0.*",
		">=1.0.0.0", ">=01.0.0", "<1.0.00", ">=10000.0.0", "<1.0.10000", ">=-1.0.0", "<v1.0.0", "<1.0.0 ", " <1.0.0", "<1.0.0\t", "<1.0.0\x00",
		">=1.0.0  <2.0.0", ">=1.0.0<2.0.0", ">=1.0.0\t<2.0.0", ">=1.0.0, <2.0.0", ">=1.0.0 and <2.0.0", "<2.0.0 >=1.0.0", "<=2.0.0 >=1.0.0",
		">=1.0.0 >=2.0.0", ">=1.0.0 >=1.0.0", "<1.0.0 <2.0.0", "<2.0.0 <2.0.0", ">=1.0.0 <2.0.0 <3.0.0", ">=1.0.0 <2.0.0 >=1.0.0",
		">=1.0.0 <1.0.0", ">=2.0.0 <1.0.0", "- / >1.0.0 <=1.0.0", "- / >1.0.0 <1.0.0", "- / >=1.0.0-b <1.0.0-a", "- / >=1.0.0-10 <1.0.0-9",
		">=0.0.0", "<0.0.0", ">=0.0.0 <1.0.0", ">1.0.0", "<=1.0.0", ">=1.0.0 <=2.0.0", ">1.0.0 <2.0.0", ">=1.0.0-a", "<1.0.0-a",
		">=1.0.0 <1.0.1-0", ">=1.0.0-0 <1.0.1", "<1.0.0 or >1.0.1", "<1.0.0 or >=1.0.1 <=2.0.0", ">9999.9999.9999", "<=9999.9999.9999",
		"<1.0.0 or >=1.0.0", "<2.0.0 or >=1.0.0", ">=2.0.0 or <1.0.0", ">=1.0.0 <2.0.0 or >=2.0.0 <3.0.0", ">=3.0.0 <4.0.0 or >=1.0.0 <2.0.0",
		">=1.0.0 <2.0.0 or >=1.0.0 <2.0.0", "- / <=1.0.0 or >1.0.0", "- / <=1.0.0 or >=1.0.0", "- / >=1.0.0-a <=1.0.0-a or >1.0.0-a",
		"- / >=1.0.0+b", "- / <1.0.0-a+b", ">=1.0.0+b", "<1.0.0+", ">=1.0.0-", "- / >=1.0.0-", "- / >=1.0.0-A", "- / >=1.0.0-01",
		"- / >=1.0.0-a..b", "- / >=1.0.0-a.b.c.d.e", "- / >=1.0.0-abcdefghi", "- / >=1.0.0-10000", "- / >=1.0.0-a ", "- / >=1.0.0-a or",
		"<1.0.0 Or >=2.0.0", "<1.0.0 OR >=2.0.0", "<1.0.0 || >=2.0.0", "<1.0.0  or >=2.0.0", "<1.0.0 or  >=2.0.0", "<1.0.0or >=2.0.0",
		"<1.0.0 or >=2.0.0 or", "<1.0.0 or >=2.0.0 / ", "x", "none", "all", "\xff", "*\xff", "\u00a0*", "*\u2003", "\uff0a", ">=\xff1.0.0",
		"<1.0.0\u00a0or\u00a0>=2.0.0", "\u2265" + "1.0.0", "<1\uff0e0.0",
	} {
		checkNone(t, s)
	}
}

// The patterns of a span's strings.
var (
	begins = regexp.MustCompile(`^(>=?)([^ <=>]+)$`)
	ends   = regexp.MustCompile(`^(<=?)([^ <=>]+)$`)
	both   = regexp.MustCompile(`^(>=?[^ <=>]+) (<=?[^ <=>]+)$`)
)

// readCut is the cut of a part, whether the part is one, and whether it is a From.
func readCut(s string) (c api.Cut, from, ok bool) {
	m := ends.FindStringSubmatch(s)
	if from = m == nil; from {
		m = begins.FindStringSubmatch(s)
	}
	if m == nil {
		return api.Cut{}, false, false
	}
	v, err := version.Parse(m[2])
	return api.Cut{V: v, After: from != strings.HasSuffix(m[1], "=")}, from, err == api.OK && v.Build == ""
}

// readOne is the span whose string is s, and whether there is one.
func readOne(s string) (api.Span, bool) {
	x := api.Span{From: low, To: high}
	l := []string{s}
	if m := both.FindStringSubmatch(s); m != nil {
		l = m[1:]
	}
	for _, p := range l {
		c, from, ok := readCut(p)
		switch {
		case p == "*":
		case !ok:
			return x, false
		case from:
			x.From = c
		default:
			x.To = c
		}
	}
	return x, cut.Compare(x.From, x.To) < 0
}

// read is the valid set whose string is s, and whether there is one.
func read(s string) (api.Set, bool) {
	var x api.Set
	rows := strings.Split(s, " / ")
	if len(rows) > 2 || len(rows) == 2 && rows[1] == "-" {
		return x, false
	}
	for i, r := range rows {
		if r == "-" {
			continue
		}
		var l []api.Span
		for _, one := range strings.Split(r, " or ") {
			sp, ok := readOne(one)
			if !ok || len(l) > 0 && cut.Compare(l[len(l)-1].To, sp.From) >= 0 {
				return x, false
			}
			for _, c := range []api.Cut{sp.From, sp.To} {
				if i == 0 && c.End == 0 && (c.After || c.V.Pre != "" || c.V == api.Version{}) {
					return x, false
				}
			}
			l = append(l, sp)
		}
		if i == 0 {
			x.Rel = l
		} else {
			x.Pre = l
		}
	}
	return x, true
}

// checkParse holds Parse and Print against the reader above, and reports whether
// s is the string of a valid set.
func checkParse(t *testing.T, s string) bool {
	t.Helper()
	x, ok := read(s)
	got, err := Parse(s)
	if !ok {
		if err != api.ErrForm || len(got.Rel) != 0 || len(got.Pre) != 0 {
			t.Fatalf("Parse(%q): %+v, %v", s, got, err)
		}
		return false
	}
	if err != api.OK || !set.Same(got, x) || !set.May(got) || Print(x) != s {
		t.Fatalf("Parse(%q): %+v, %v; want %+v, whose string is %q", s, got, err, x, Print(x))
	}
	return true
}

// P8.1: all strings of a few short pieces.
func TestShortStrings(t *testing.T) {
	pieces := []string{"-", "*", ">", "<", "=", " ", "/", "or", " or ", " / ", "0.0.0", "1.0.0", "1.0.0-a", "2.0.0"}
	met := 0
	level := []string{""}
	for range 6 {
		var next []string
		for _, s := range level {
			if checkParse(t, s) {
				met++
			}
			for _, x := range pieces {
				next = append(next, s+x)
			}
		}
		level = next
	}
	if met < 25 {
		t.Errorf("only %d strings are those of sets", met)
	}
}

// P8.1: strings of sets in which one byte is changed, inserted or left out.
func TestNearStrings(t *testing.T) {
	met := 0
	for _, s := range []string{
		"-", "*", "- / *", "* / <0.0.0-a or >0.0.0-a", ">=1.2.3 / >=1.2.3-a <1.2.3", "- / <=0.0.0 or >0.9.0 <=0.9.1-b.1",
		"<1.2.0 or >=1.10.0 <2.0.0 or >=11.0.0", "<0.0.1 / >=0.0.0 <=0.0.1-or.or",
	} {
		if !checkParse(t, s) {
			t.Errorf("%q is not the string of a set", s)
		}
		for i := range len(s) + 1 {
			checkParse(t, s[:i])
			checkParse(t, s[i:])
			checkParse(t, s[:i]+s+s[i:])
			for b := range 256 {
				x := string([]byte{byte(b)})
				if checkParse(t, s[:i]+x+s[i:]) {
					met++
				}
				if i < len(s) && checkParse(t, s[:i]+x+s[i+1:]) {
					met++
				}
			}
			if i < len(s) {
				checkParse(t, s[:i]+s[i+1:])
			}
		}
	}
	if met < 500 {
		t.Errorf("only %d strings are those of sets", met)
	}
}

// P8.1: strings of spans and rows by chance, some of which are those of sets.
func TestPieces(t *testing.T) {
	r := rand.New(rand.NewSource(81))
	pick := func(l ...string) string { return l[r.Intn(len(l))] }
	spanOf := func(pre bool) string {
		a, b := pick("0.0.1", "0.1.0", "1.0.0", "2.3.4"), pick("1.0.0", "3.0.0", "10.0.0", "9999.9999.9999")
		from, to := ">=", "<"
		if pre {
			a, b = a+pick("", "-a", "-a.1", "-0"), b+pick("", "-a", "-b.c", "-10")
			from, to = pick(">=", ">"), pick("<", "<=")
		}
		if r.Intn(40) == 0 {
			a, b = pick(a, a+"+b", "1.0", "0.0.0"), pick(b, b+"+b", "1.0.0.0", "1.0.0-A")
			from, to = pick("", ">", ">=", "<", "="), pick("", "<=", ">", "<")
		}
		gap := pick(" ", " ", " ", " ", " ", " ", " ", "", "  ")
		return pick(from+a+gap+to+b, from+a+gap+to+b, from+a, to+b, "*")
	}
	rowOf := func(pre bool) string {
		s := spanOf(pre)
		for r.Intn(2) == 0 {
			s += pick(" or ", " or ", " or ", " or ", " or ", "or", " or", "  or ") + spanOf(pre)
		}
		return pick(s, s, s, s, s, "-")
	}
	met := map[bool]int{}
	for range 20000 {
		s := rowOf(false)
		if r.Intn(3) > 0 {
			s += pick(" / ", " / ", " / ", " / ", " /", "/ ") + rowOf(true)
		}
		met[checkParse(t, s)]++
	}
	if met[true] < 2000 || met[false] < 2000 {
		t.Errorf("of how many sets they are: %v", met)
	}
}

// P8.1, P8.2: all sets of the parts of rels and pres, with their strings; no string
// is that of two.
func TestAllSets(t *testing.T) {
	met := map[string]bool{}
	for n := range 1 << (len(rels) - 1) {
		for m := range 1 << (len(pres) - 1) {
			var x api.Set
			var s, p string
			x.Rel, s = part(rels, n)
			x.Pre, p = part(pres, m)
			if m != 0 {
				s += " / " + p
			}
			checkBoth(t, x, s)
			if met[Print(x)] {
				t.Fatalf("%q is the string of two sets", Print(x))
			}
			met[Print(x)] = true
		}
	}
}

// chance is a version of few numbers and tags.
func chance(r *rand.Rand) api.Version {
	number := func() int { return []int{0, 1, 2, 10, 9999}[r.Intn(5)] }
	v := api.Version{Major: number(), Minor: number(), Patch: number()}
	if r.Intn(2) == 0 {
		var tags []string
		for range 1 + r.Intn(4) {
			tags = append(tags, []string{"0", "9", "10", "a", "or", "-", "a-9", "abcdefgh"}[r.Intn(8)])
		}
		v.Pre = strings.Join(tags, ".")
	}
	return v
}

// sets are n valid sets by chance.
func sets(n int) []api.Set {
	r := rand.New(rand.NewSource(82))
	spans := func() []api.Span {
		var l []api.Span
		for range r.Intn(5) {
			s := api.Span{From: low, To: high}
			if r.Intn(6) > 0 {
				s.From = api.Cut{V: chance(r), After: r.Intn(2) == 0}
			}
			if r.Intn(6) > 0 {
				s.To = api.Cut{V: chance(r), After: r.Intn(2) == 0}
			}
			if cut.SpanMay(s) {
				l = append(l, s)
			}
		}
		l, _ = row.Make(l)
		return l
	}
	var l []api.Set
	for range n {
		x, _ := set.Make(spans(), spans())
		l = append(l, x)
	}
	return l
}

// P8.1, P8.2 (T3): what is printed is read back, and is that of no other set.
func TestRoundTrip(t *testing.T) {
	met := map[string]api.Set{}
	for _, x := range sets(5000) {
		s := Print(x)
		if old, ok := met[s]; ok && !set.Same(old, x) {
			t.Fatalf("%q is the string of %+v and of %+v", s, old, x)
		}
		met[s] = x
		if want, ok := read(s); !ok || !set.Same(want, x) {
			t.Fatalf("Print(%+v): %q", x, s)
		}
		if got, err := Parse(s); err != api.OK || !set.Same(got, x) || Print(got) != s {
			t.Fatalf("Parse(%q): %+v, %v; want %+v", s, got, err, x)
		}
	}
	if len(met) < 2500 {
		t.Errorf("only %d sets", len(met))
	}
}

// P8.1: sets that are not valid have no string.
func TestNotSets(t *testing.T) {
	one, two := before("1.0.0"), before("2.0.0")
	rows := [][]api.Span{
		{{}}, span(one, one), span(two, one), span(high, low), span(low, low), span(high, high), span(high, one), span(one, low),
		slices.Concat(span(low, one), span(one, high)), slices.Concat(span(low, two), span(one, high)),
		slices.Concat(span(two, high), span(low, one)), append(span(low, high), api.Span{}), slices.Concat(span(low, high), span(low, high)),
		slices.Concat(span(low, one), span(two, high), span(two, high)),
	}
	for _, c := range []api.Cut{
		{End: 2}, {End: -2}, {End: math.MaxInt64}, {End: math.MinInt64}, {End: 1 << 32}, {End: 1, After: true}, {End: -1, After: true},
		{End: 1, V: api.Version{Major: 1}}, {End: -1, V: api.Version{Pre: "0"}}, {V: api.Version{Major: 1, Build: "b"}},
		{V: api.Version{Major: -1}}, {V: api.Version{Patch: 10000}}, {V: api.Version{Major: math.MaxInt64}}, {V: api.Version{Minor: math.MinInt64}},
		{V: api.Version{Major: 1, Pre: "01"}}, {V: api.Version{Major: 1, Pre: "A"}}, {V: api.Version{Pre: " or "}}, {V: api.Version{Pre: "\xff"}},
	} {
		rows = append(rows, span(c, high), span(low, c), span(c, c), append(span(low, one), span(two, c)...), append(span(c, one), span(two, high)...))
	}
	for _, l := range rows {
		for _, x := range []api.Set{{Rel: l}, {Pre: l}, {Rel: l, Pre: l}, {Rel: span(low, high), Pre: l}, {Rel: l, Pre: span(low, high)}} {
			if s := Print(x); s != "" {
				t.Errorf("Print(%+v): %q", x, s)
			}
		}
	}
	for _, c := range []api.Cut{
		before("0.0.0"), after("0.0.0"), after("1.0.0"), before("1.0.0-a"), after("1.0.0-a"), before("0.0.0-0"), after("9999.9999.9999"),
	} {
		for _, l := range [][]api.Span{span(low, c), span(c, high)} {
			if s := Print(api.Set{Rel: l}); s != "" {
				t.Errorf("Print(%+v): %q", l, s)
			}
			if s := Print(api.Set{Pre: l}); s == "" {
				t.Errorf("Print(%+v): no string", l)
			}
		}
	}
}

// inside reports whether s begins in the memory of whole.
func inside(s, whole string) bool {
	if s == "" || whole == "" {
		return false
	}
	from := uintptr(unsafe.Pointer(unsafe.StringData(whole)))
	p := uintptr(unsafe.Pointer(unsafe.StringData(s)))
	return from <= p && p < from+uintptr(len(whole))
}

// samples are strings of sets.
var samples = []string{
	"-", "*", "* / *", "- / >=1.2.3-a <=1.2.3-a", "<1.2.3 or >=1.2.4 / <1.2.3-or or >1.2.3-or.a <4.5.6-b",
	">=1.2.3 <2.0.0 / >=1.2.3-a <1.2.3 or >=1.5.0-b <=1.5.0-b",
	"<1.0.0 or >=2.0.0 <3.0.0 or >=4.0.0 / >=1.2.3-a", // a list of three may have room for a fourth behind it
}

// R4 for P8.1: results share no strings with arguments or one another.
func TestStringMemory(t *testing.T) {
	for _, sample := range samples {
		s := strings.Clone(sample)
		old := []string{s}
		check := func(l ...string) {
			t.Helper()
			for _, x := range l {
				if slices.ContainsFunc(old, func(o string) bool { return inside(x, o) }) {
					t.Errorf("a result for %q has a string of before", s)
				}
				old = append(old, x)
			}
		}
		for range 2 {
			x, err := Parse(s)
			if err != api.OK {
				t.Fatalf("Parse(%q): %v", s, err)
			}
			for _, sp := range slices.Concat(x.Rel, x.Pre) {
				check(sp.From.V.Pre, sp.To.V.Pre)
			}
			check(Print(x), Print(x))
		}
	}
}

// R4 for P8.1: results share no lists with one another or within themselves, and
// arguments stay as they are, with what lies behind them.
func TestListMemory(t *testing.T) {
	mark := span(after("7.7.7-mark"), high)
	for _, s := range samples {
		x, _ := Parse(s)
		y, _ := Parse(s)
		want, _ := read(s)
		clear(x.Rel[:cap(x.Rel)])
		if !slices.Equal(x.Pre, want.Pre) || !set.Same(y, want) {
			t.Errorf("the Rel of Parse(%q) shares its memory", s)
		}
		clear(y.Pre[:cap(y.Pre)])
		if !slices.Equal(y.Rel, want.Rel) {
			t.Errorf("the Pre of Parse(%q) shares its memory", s)
		}
		rel, pre := append(want.Rel, mark...), append(want.Pre, mark...)
		z := api.Set{Rel: rel[:len(rel)-1], Pre: pre[:len(pre)-1]}
		if Print(z) != s || Print(z) != s || !set.Same(z, want) || rel[len(rel)-1] != mark[0] || pre[len(pre)-1] != mark[0] {
			t.Errorf("Print of the set of %q changed it", s)
		}
	}
}

// R1 for P8.1: strings and sets of any length take no longer than that explains.
func TestLong(t *testing.T) {
	start := time.Now()
	for _, x := range []string{
		"*", "-", " ", "/", " / ", " or ", "or", ">", "<", "=", "0", "1.", "a", "\xff", "* / ", "* or ", "- / ", ">=1.0.0 ", "<1.0.0 or ",
		">=1.0.0 <2.0.0 or ", ">=1.0.0-", "a.", "1.0.0 ",
	} {
		many := strings.Repeat(x, 1<<16)
		for _, s := range []string{many, "*" + many, many + "*", "- / >=1.0.0-" + many, "<1.0.0 or >=2.0.0" + many, "* / <" + many} {
			if y, err := Parse(s); err != api.ErrForm || len(y.Rel) != 0 || len(y.Pre) != 0 {
				t.Errorf("Parse of many %q: %v", x, err)
			}
		}
	}
	for _, v := range []api.Version{{Pre: strings.Repeat("a", 1<<20)}, {Pre: strings.Repeat("a.", 1<<20)}, {Build: strings.Repeat("a", 1<<20)}} {
		if s := Print(api.Set{Pre: span(api.Cut{V: v}, high)}); s != "" {
			t.Errorf("Print of a set with a long version: %d bytes", len(s))
		}
	}
	var x api.Set
	var want []string
	for i := range 20000 {
		from, to := api.Version{Major: i / 5000, Minor: i % 5000, Patch: 1}, api.Version{Major: i / 5000, Minor: i % 5000, Patch: 2}
		x.Rel = append(x.Rel, api.Span{From: api.Cut{V: from}, To: api.Cut{V: to}})
		want = append(want, ">="+version.Print(from)+" <"+version.Print(to))
	}
	x.Pre = slices.Clone(x.Rel)
	checkBoth(t, x, strings.Join(want, " or ")+" / "+strings.Join(want, " or "))
	if d := time.Since(start); d > 20*time.Second {
		t.Errorf("that took %v", d)
	}
}

package comp

import (
	"math"
	"math/rand"
	"regexp"
	"slices"
	"strings"
	"testing"
	"unsafe"

	"linchpin/api"
	"linchpin/row"
	"linchpin/version"
)

// signs are the signs of the operators, by their numbers. That of a Star is none.
var signs = []string{
	api.Eq: "=", api.Ne: "!=", api.Lt: "<", api.Le: "<=", api.Gt: ">", api.Ge: ">=",
	api.Caret: "^", api.Tilde: "~", api.Star: "",
}

// few are numbers at the ends and between them.
var few = []int{0, 1, 2, 10, 9998, 9999}

// samples are strings of comparators, of every operator and all Parts.
var samples = []string{
	"=1.2.3", "=0", "!=1.20", "!=0.0.0-0", "<9999.9999.9999", "<0.1", "<=1", "<=3.4.5-a",
	">0.0", ">1.2.3-rc.10", ">=10.0.1", ">=0.0.0-a-b.c", "^1", "^0.2.3---", "~1.2", "~7.8.9-x.0.y.1",
	"*", "0.*", "12.*", "1.2.*", "9999.9999.*",
}

// ver is the version whose string is s.
func ver(t *testing.T, s string) api.Version {
	t.Helper()
	v, err := version.Parse(s)
	if err != api.OK {
		t.Fatalf("version.Parse(%q): %v", s, err)
	}
	return v
}

// must is the comparator whose string is s.
func must(t *testing.T, s string) api.Comp {
	t.Helper()
	c, err := Parse(s)
	if err != api.OK {
		t.Fatalf("Parse(%q): %v", s, err)
	}
	return c
}

// valid are comparators, all that are valid of few numbers and few Pres.
func valid() []api.Comp {
	var l []api.Comp
	for op := api.Eq; op < api.Star; op++ {
		for _, n := range few {
			l = append(l, api.Comp{Op: op, Parts: 1, V: api.Version{Major: n}})
			for _, m := range few {
				l = append(l, api.Comp{Op: op, Parts: 2, V: api.Version{Major: n, Minor: m}})
				for _, p := range few {
					for _, tags := range []string{"", "0", "a", "a.0", "z-.9999.a0"} {
						v := api.Version{Major: n, Minor: m, Patch: p, Pre: tags}
						l = append(l, api.Comp{Op: op, Parts: 3, V: v})
					}
				}
			}
		}
	}
	l = append(l, api.Comp{Op: api.Star})
	for _, n := range few {
		l = append(l, api.Comp{Op: api.Star, Parts: 1, V: api.Version{Major: n}})
		for _, m := range few {
			l = append(l, api.Comp{Op: api.Star, Parts: 2, V: api.Version{Major: n, Minor: m}})
		}
	}
	return l
}

// checkTwoWays holds May, Print and Parse against a valid comparator and its
// string.
func checkTwoWays(t *testing.T, c api.Comp, s string) {
	t.Helper()
	if !May(c) {
		t.Errorf("May(%+v) is false", c)
	}
	if got := Print(c); got != s {
		t.Errorf("Print(%+v): %q", c, got)
	}
	if got, err := Parse(s); got != c || err != api.OK {
		t.Errorf("Parse(%q): %+v, %v", s, got, err)
	}
}

// checkNot holds every function against a comparator that is not valid.
func checkNot(t *testing.T, c api.Comp) {
	t.Helper()
	if May(c) {
		t.Errorf("May(%+v) is true", c)
	}
	if s := Print(c); s != "" {
		t.Errorf("Print(%+v): %q", c, s)
	}
	if l := Region(c); len(l) != 0 {
		t.Errorf("Region(%+v): %+v", c, l)
	}
	if l := Zone(c); len(l) != 0 {
		t.Errorf("Zone(%+v): %+v", c, l)
	}
}

// P6.1: comparators and their strings.
func TestStrings(t *testing.T) {
	for s, c := range map[string]api.Comp{
		"=1":                 {Op: api.Eq, Parts: 1, V: api.Version{Major: 1}},
		"=1.2":               {Op: api.Eq, Parts: 2, V: api.Version{Major: 1, Minor: 2}},
		"=1.2.3":             {Op: api.Eq, Parts: 3, V: api.Version{Major: 1, Minor: 2, Patch: 3}},
		"=1.2.3-a.10":        {Op: api.Eq, Parts: 3, V: api.Version{Major: 1, Minor: 2, Patch: 3, Pre: "a.10"}},
		"!=1.2.0":            {Op: api.Ne, Parts: 3, V: api.Version{Major: 1, Minor: 2}},
		"<0":                 {Op: api.Lt, Parts: 1},
		"<0.0":               {Op: api.Lt, Parts: 2},
		"<0.0.0":             {Op: api.Lt, Parts: 3},
		"<0.0.0-0":           {Op: api.Lt, Parts: 3, V: api.Version{Pre: "0"}},
		"<=9999.9999":        {Op: api.Le, Parts: 2, V: api.Version{Major: 9999, Minor: 9999}},
		">10.20.30":          {Op: api.Gt, Parts: 3, V: api.Version{Major: 10, Minor: 20, Patch: 30}},
		">=0.0.1--":          {Op: api.Ge, Parts: 3, V: api.Version{Patch: 1, Pre: "-"}},
		"^1":                 {Op: api.Caret, Parts: 1, V: api.Version{Major: 1}},
		"^0.1.0-x-y.0-.a":    {Op: api.Caret, Parts: 3, V: api.Version{Minor: 1, Pre: "x-y.0-.a"}},
		"~1.0":               {Op: api.Tilde, Parts: 2, V: api.Version{Major: 1}},
		"~1.0.0-----":        {Op: api.Tilde, Parts: 3, V: api.Version{Major: 1, Pre: "----"}},
		"*":                  {Op: api.Star},
		"0.*":                {Op: api.Star, Parts: 1},
		"1.*":                {Op: api.Star, Parts: 1, V: api.Version{Major: 1}},
		"0.0.*":              {Op: api.Star, Parts: 2},
		"1.2.*":              {Op: api.Star, Parts: 2, V: api.Version{Major: 1, Minor: 2}},
		"9999.9999.*":        {Op: api.Star, Parts: 2, V: api.Version{Major: 9999, Minor: 9999}},
		"=0.0.0-a.b.c.d":     {Op: api.Eq, Parts: 3, V: api.Version{Pre: "a.b.c.d"}},
		"=0.0.0-zzzzzzzz.9z": {Op: api.Eq, Parts: 3, V: api.Version{Pre: "zzzzzzzz.9z"}},
	} {
		checkTwoWays(t, c, s)
	}
}

// P6.1: every operator has its sign, with any numbers.
func TestSigns(t *testing.T) {
	for op := api.Eq; op < api.Star; op++ {
		for s, c := range map[string]api.Comp{
			"0":         {Parts: 1},
			"1":         {Parts: 1, V: api.Version{Major: 1}},
			"0.0":       {Parts: 2},
			"10.2":      {Parts: 2, V: api.Version{Major: 10, Minor: 2}},
			"0.9999.0":  {Parts: 3, V: api.Version{Minor: 9999}},
			"1.2.3-a-0": {Parts: 3, V: api.Version{Major: 1, Minor: 2, Patch: 3, Pre: "a-0"}},
		} {
			c.Op = op
			checkTwoWays(t, c, signs[op]+s)
		}
	}
}

// P6.1: a sign may be left out, if it is that of a Caret.
func TestNoSign(t *testing.T) {
	for _, s := range []string{"0", "1", "1.2", "0.0.0", "1.2.3", "9999.9999.9999", "1.2.3-a", "1.2.3-a-b.0.-"} {
		c := must(t, s)
		if c.Op != api.Caret || c != must(t, "^"+s) || Print(c) != "^"+s {
			t.Errorf("Parse(%q): %+v", s, c)
		}
	}
}

// P6.1: strings that no comparator has.
func TestNoStrings(t *testing.T) {
	for _, s := range []string{
		"", " ", "=", "!=", "<", "<=", ">", ">=", "^", "~", "!", "=1.", "=.1", "=1..2", "=1.2.", "=1.2.3.",
		"=1.2.3.4", "=1.2.3.0", "=1.2.3.", "1.", ".", "..", "1..", "=-1", "=1.-2", "=+1", "=01", "=1.02", "=1.2.03",
		"=00", "=10000", "=1.10000", "=1.2.10000", "=99999999999999999999", "=x", "=1.x", "=1.2.x", "x", "X", "1.X",
		"=1-a", "=1.2-a", "1-a", "1.2-a", "=1.2.3-", "=1.2.3-.", "=1.2.3-a.", "=1.2.3-.a", "=1.2.3-a..b", "=1.2.3-01",
		"=1.2.3-10000", "=1.2.3-A", "=1.2.3-a_b", "=1.2.3-a.b.c.d.e", "=1.2.3-123456789", "=1.2.3-abcdefghi",
		"=1.2.3+b", "=1.2.3-a+b", "=1.2.3+", "=1+b", "1.2.3+b", "1.2.3-a+b", "*+b",
		"**", "*.", ".*", "*.*", "*.1", "1*", "1.2*", "1.2.3*", "1.2.3.*", "1.*.*", "1.*.2", "1.*.", "1..*", "01.*",
		"10000.*", "1.10000.*", "*-a", "1.*-a", "1.2.*-a", "1.2.*-", "*-", "1.2.3-*", "1.2.3-a.*",
		"=*", "!=*", "<*", "<=*", ">*", ">=*", "^*", "~*", "^1.*", "=1.2.*", "~0.*",
		"==1", "=!1", "!1", "!!=1", "!==1", "!=!1", "=<1", "=>1", "<<1", ">>1", "<>1", "><1", "<==1", ">==1", "<=>1",
		"^^1", "^=1", "=^1", "~~1", "~>1", "^~1", "~^1", "~=1", "!^1", "^!=1", "-1", "-", "--", "a-b",
		" =1", "= 1", "=1 ", "1 ", " 1", "1 .2", "\t1", "1\n", "=1\x00", "\x001", "=1,", "1||", "v1", "=v1", "V1.2.3",
		"\xff", "=\xff", "=1.2.3-\xff", "=1.2.3-\u00e9", "=\u0661", "\uff1d1", "\u22651", "=1.2.3-a\x00",
	} {
		if c, err := Parse(s); err != api.ErrRange || c != (api.Comp{}) {
			t.Errorf("Parse(%q): %+v, %v", s, c, err)
		}
	}
}

// number, tags and the patterns are those of the document.
const (
	number = `(0|[1-9][0-9]{0,3})`
	tag    = `(?:0|[1-9][0-9]{0,3}|[0-9]*[a-z-][0-9a-z-]*)`
	tags   = `(` + tag + `(?:\.` + tag + `){0,3})`
)

var (
	plain = regexp.MustCompile(`^(=|!=|<=?|>=?|\^|~)?` + number + `(?:\.` + number + `(?:\.` + number + `(?:-` + tags + `)?)?)?$`)
	star  = regexp.MustCompile(`^(?:` + number + `\.(?:` + number + `\.)?)?\*$`)
)

// read is the comparator that Parse returns for s, and whether there is one.
func read(s string) (api.Comp, bool) {
	c := api.Comp{Op: api.Star}
	m := star.FindStringSubmatch(s)
	if m == nil {
		m = plain.FindStringSubmatch(s)
		if m == nil {
			return api.Comp{}, false
		}
		c.Op = api.Caret
		if m[1] != "" {
			c.Op = slices.Index(signs, m[1])
		}
		c.V.Pre = m[5]
		m = m[1:5]
	}
	for _, tag := range strings.Split(c.V.Pre, ".") {
		if len(tag) > api.MaxTag {
			return api.Comp{}, false
		}
	}
	for i, n := range []*int{&c.V.Major, &c.V.Minor, &c.V.Patch} {
		if i+1 < len(m) && m[i+1] != "" {
			c.Parts++
			for _, digit := range m[i+1] {
				*n = *n*10 + int(digit-'0')
			}
		}
	}
	return c, true
}

// checkParse holds Parse against the reader above, and what it reads against
// Print.
func checkParse(t *testing.T, s string) bool {
	t.Helper()
	want, is := read(s)
	err := api.OK
	if !is {
		err = api.ErrRange
	}
	c, got := Parse(s)
	if c != want || got != err {
		t.Fatalf("Parse(%q): %+v, %v; want %+v, %v", s, c, got, want, err)
	}
	if p := Print(c); is && p != s && p != "^"+s {
		t.Fatalf("Print of Parse(%q): %q", s, p)
	}
	return is
}

// P6.1: all short strings of some bytes.
func TestShortStrings(t *testing.T) {
	const bytes = "=!<>^~*.-01a"
	met := 0
	level := []string{""}
	for range 5 {
		var next []string
		for _, s := range level {
			if checkParse(t, s) {
				met++
			}
			for i := range len(bytes) {
				next = append(next, s+bytes[i:i+1])
			}
		}
		level = next
	}
	if met < 100 {
		t.Errorf("only %d strings are those of comparators", met)
	}
}

// P6.1: strings of comparators in which one byte is changed, inserted or left out.
func TestNearStrings(t *testing.T) {
	for _, s := range samples {
		if !checkParse(t, s) {
			t.Errorf("%q is no string of a comparator", s)
		}
		for i := range len(s) + 1 {
			checkParse(t, s[:i])
			checkParse(t, s[i:])
			for b := range 256 {
				x := string([]byte{byte(b)})
				checkParse(t, s[:i]+x+s[i:])
				if i < len(s) {
					checkParse(t, s[:i]+x+s[i+1:])
				}
			}
		}
		for i := range len(s) {
			checkParse(t, s[:i]+s[i+1:])
		}
	}
}

// P6.1: strings of random pieces.
func TestPieces(t *testing.T) {
	pieces := []string{
		"=", "!=", "<", "<=", ">", ">=", "^", "~", "*", ".", ".", ".", ".", "-", "-", "0", "1", "23", "9999",
		"10000", "01", "a", "abcdefgh", "abcdefghi", "12345678", "z-", "+", "!", " ",
	}
	r := rand.New(rand.NewSource(61))
	met := map[int]int{}
	for range 300000 {
		s := signs[1+r.Intn(9)] + []string{"", "1", "1.2.", "1.2.3", "1.2.3-"}[r.Intn(5)]
		for range r.Intn(7) {
			s += pieces[r.Intn(len(pieces))]
		}
		if checkParse(t, s) {
			met[must(t, s).Op]++
		}
	}
	for op := api.Eq; op <= api.Star; op++ {
		if met[op] < 50 {
			t.Errorf("only %d strings are those of the operator %d", met[op], op)
		}
	}
}

// P6.1: what makes a comparator valid.
func TestMay(t *testing.T) {
	versions := []api.Version{
		{}, {Major: 1}, {Minor: 1}, {Patch: 1}, {Major: 1, Minor: 2}, {Major: 1, Patch: 3}, {Major: 1, Minor: 2, Patch: 3},
		{Major: 9999, Minor: 9999, Patch: 9999}, {Pre: "0"}, {Major: 1, Pre: "a.b.c.d"}, {Minor: 1, Pre: "a"},
		{Major: 1, Minor: 2, Patch: 3, Pre: "rc-1"}, {Build: "b"}, {Major: 1, Build: "0"},
		{Major: 1, Minor: 2, Patch: 3, Build: "b"}, {Patch: 3, Pre: "a", Build: "b"},
		{Major: 10000}, {Major: -1}, {Minor: 10000}, {Minor: -1}, {Patch: 10000}, {Patch: -1}, {Major: 1 << 32},
		{Patch: math.MinInt64}, {Major: math.MaxInt64}, {Pre: "01"}, {Pre: "A"}, {Pre: "a."}, {Pre: "."}, {Pre: "10000"},
		{Pre: "a.b.c.d.e"}, {Pre: "123456789"}, {Pre: "\xff"}, {Pre: "-\x00"}, {Build: "."}, {Build: "+"},
	}
	met := 0
	for _, op := range []int{math.MinInt64, -1, 0, 1, 2, 3, 4, 5, 6, 7, 8, 9, 10, 1<<32 + 1, math.MaxInt64} {
		for _, parts := range []int{math.MinInt64, -1, 0, 1, 2, 3, 4, 1<<32 + 1, math.MaxInt64} {
			for _, v := range versions {
				c := api.Comp{Op: op, Parts: parts, V: v}
				if may(c) {
					met++
					if !May(c) {
						t.Errorf("May(%+v) is false", c)
					}
					continue
				}
				checkNot(t, c)
			}
		}
	}
	if met < 100 {
		t.Errorf("only %d comparators are valid", met)
	}
	for _, c := range valid() {
		if !May(c) {
			t.Errorf("May(%+v) is false", c)
		}
	}
	checkNot(t, api.Comp{})
}

// may reports what May shall report.
func may(c api.Comp) bool {
	switch c.Op {
	case api.Star:
		if c.Parts != 0 && c.Parts != 1 && c.Parts != 2 || c.V.Pre != "" {
			return false
		}
	case api.Eq, api.Ne, api.Lt, api.Le, api.Gt, api.Ge, api.Caret, api.Tilde:
		if c.Parts != 1 && c.Parts != 2 && c.Parts != 3 || c.Parts != 3 && c.V.Pre != "" {
			return false
		}
	default:
		return false
	}
	if c.Parts == 0 && c.V.Major != 0 || c.Parts <= 1 && c.V.Minor != 0 || c.Parts <= 2 && c.V.Patch != 0 {
		return false
	}
	return version.May(c.V) && c.V.Build == ""
}

// rowOf is the row of some cuts, two of them for each span: "-" and "+" are the
// ends, "|1.2.3" is the cut before 1.2.3, and "1.2.3|" the cut after it.
func rowOf(t *testing.T, s string) []api.Span {
	t.Helper()
	var cuts []api.Cut
	for _, x := range strings.Fields(s) {
		switch x {
		case "-":
			cuts = append(cuts, api.Cut{End: -1})
		case "+":
			cuts = append(cuts, api.Cut{End: 1})
		default:
			cuts = append(cuts, api.Cut{V: ver(t, strings.Trim(x, "|")), After: x[0] != '|'})
		}
	}
	var l []api.Span
	for i := 0; i < len(cuts); i += 2 {
		l = append(l, api.Span{From: cuts[i], To: cuts[i+1]})
	}
	return l
}

// P6.2: the cuts of regions.
func TestRegion(t *testing.T) {
	for s, want := range map[string]string{
		"=1.2.3":           "|1.2.3 1.2.3|",
		"=1.2.3-a":         "|1.2.3-a 1.2.3-a|",
		"=0.0.0":           "|0.0.0 0.0.0|",
		"=9999.9999.9999":  "|9999.9999.9999 9999.9999.9999|",
		"=1.2":             "|1.2.0 |1.3.0",
		"=1":               "|1.0.0 |2.0.0",
		"=0":               "|0.0.0 |1.0.0",
		"=0.0":             "|0.0.0 |0.1.0",
		"=1.9999":          "|1.9999.0 |2.0.0",
		"=9999":            "|9999.0.0 +",
		"=9999.9999":       "|9999.9999.0 +",
		"!=1.2.3":          "- |1.2.3 1.2.3| +",
		"!=1.2.3-a":        "- |1.2.3-a 1.2.3-a| +",
		"!=1.2":            "- |1.2.0 |1.3.0 +",
		"!=1":              "- |1.0.0 |2.0.0 +",
		"!=0":              "- |0.0.0 |1.0.0 +",
		"!=0.0.0-0":        "- |0.0.0-0 0.0.0-0| +",
		"!=9999":           "- |9999.0.0",
		"!=9999.9999":      "- |9999.9999.0",
		"!=9999.9999.9999": "- |9999.9999.9999 9999.9999.9999| +",
		"<1.2.3":           "- |1.2.3",
		"<1.2":             "- |1.2.0",
		"<1":               "- |1.0.0",
		"<1.2.3-a":         "- |1.2.3-a",
		"<0":               "- |0.0.0",
		"<0.0.0-0":         "- |0.0.0-0",
		"<=1.2.3":          "- 1.2.3|",
		"<=1.2.3-a":        "- 1.2.3-a|",
		"<=1.2":            "- |1.3.0",
		"<=1":              "- |2.0.0",
		"<=1.9999":         "- |2.0.0",
		"<=9999":           "- +",
		"<=9999.9999":      "- +",
		"<=9999.9999.9999": "- 9999.9999.9999|",
		">1.2.3":           "1.2.3| +",
		">1.2.3-a":         "1.2.3-a| +",
		">1.2":             "|1.3.0 +",
		">1":               "|2.0.0 +",
		">1.9999":          "|2.0.0 +",
		">9999":            "",
		">9999.9999":       "",
		">9999.9999.9999":  "9999.9999.9999| +",
		">=1.2.3":          "|1.2.3 +",
		">=1.2.3-a":        "|1.2.3-a +",
		">=1.2":            "|1.2.0 +",
		">=1":              "|1.0.0 +",
		">=0":              "|0.0.0 +",
		">=9999.9999.9999": "|9999.9999.9999 +",
		"^1.2.3":           "|1.2.3 |2.0.0",
		"^1.2":             "|1.2.0 |2.0.0",
		"^1":               "|1.0.0 |2.0.0",
		"^1.0.0":           "|1.0.0 |2.0.0",
		"^1.2.3-a":         "|1.2.3-a |2.0.0",
		"^0.2.3":           "|0.2.3 |0.3.0",
		"^0.2.0":           "|0.2.0 |0.3.0",
		"^0.2":             "|0.2.0 |0.3.0",
		"^0.2.3-a":         "|0.2.3-a |0.3.0",
		"^0.0.3":           "|0.0.3 |0.0.4",
		"^0.0.3-a":         "|0.0.3-a |0.0.4",
		"^0.0.0":           "|0.0.0 |0.0.1",
		"^0.0.0-a":         "|0.0.0-a |0.0.1",
		"^0.0":             "|0.0.0 |0.1.0",
		"^0":               "|0.0.0 |1.0.0",
		"^0.9999.2":        "|0.9999.2 |1.0.0",
		"^0.9999":          "|0.9999.0 |1.0.0",
		"^0.0.9999":        "|0.0.9999 |0.1.0",
		"^9999":            "|9999.0.0 +",
		"^9999.1.2":        "|9999.1.2 +",
		"~1.2.3":           "|1.2.3 |1.3.0",
		"~1.2.3-a":         "|1.2.3-a |1.3.0",
		"~1.2.0":           "|1.2.0 |1.3.0",
		"~1.2":             "|1.2.0 |1.3.0",
		"~1.0":             "|1.0.0 |1.1.0",
		"~1":               "|1.0.0 |2.0.0",
		"~0":               "|0.0.0 |1.0.0",
		"~0.0":             "|0.0.0 |0.1.0",
		"~0.0.0":           "|0.0.0 |0.1.0",
		"~1.9999.3":        "|1.9999.3 |2.0.0",
		"~9999":            "|9999.0.0 +",
		"~9999.9999.1":     "|9999.9999.1 +",
		"*":                "- +",
		"0.*":              "|0.0.0 |1.0.0",
		"1.*":              "|1.0.0 |2.0.0",
		"1.2.*":            "|1.2.0 |1.3.0",
		"0.0.*":            "|0.0.0 |0.1.0",
		"1.9999.*":         "|1.9999.0 |2.0.0",
		"9999.*":           "|9999.0.0 +",
		"9999.9999.*":      "|9999.9999.0 +",
	} {
		if got := Region(must(t, s)); !slices.Equal(got, rowOf(t, want)) {
			t.Errorf("Region of %s: %+v", s, got)
		}
	}
}

// Places are integers that stand for cuts and versions in their order: there are
// perRelease of them for each release and the versions with a Pre of before it.
const (
	begin      = -1
	perRelease = 100
	end        = 10000 * 10000 * 10000 * perRelease
)

// place is the place of a version, of which the Pre is one of those of valid.
func place(v api.Version) int {
	rising := []string{"0", "a", "a.0", "z-.9999.a0", ""}
	n := (v.Major*10000+v.Minor)*10000 + v.Patch
	return n*perRelease + 10 + 10*slices.Index(rising, v.Pre)
}

// placeOf is the place of a cut.
func placeOf(c api.Cut) int {
	switch {
	case c.End < 0:
		return begin
	case c.End > 0:
		return end
	case c.After:
		return place(c.V) + 1
	}
	return place(c.V) - 1
}

// raised is the place of the cut before the release that v is raised to in the
// number k, or in one before it. That a number is at its end carries over to the
// number before it.
func raised(v api.Version, k int) int {
	unit := []int{10000 * 10000, 10000, 1}[k]
	n := (v.Major*10000+v.Minor)*10000 + v.Patch
	n = (n/unit + 1) * unit
	if n*perRelease >= end {
		return end
	}
	return n*perRelease + place(api.Version{}) - 1
}

// spans are the places of the cuts of the region of c.
func spans(c api.Comp) []int {
	low, last := place(c.V)-1, c.Parts-1
	after := place(c.V) + 1
	if c.Parts == 1 || c.Parts == 2 {
		after = raised(c.V, last)
	}
	l := []int{low, end}
	switch c.Op {
	case api.Eq:
		l = []int{low, after}
	case api.Ne:
		l = []int{begin, low, after, end}
	case api.Lt:
		l = []int{begin, low}
	case api.Le:
		l = []int{begin, after}
	case api.Gt:
		l = []int{after, end}
	case api.Caret:
		k := slices.IndexFunc([]int{c.V.Major, c.V.Minor, c.V.Patch}, func(n int) bool { return n != 0 })
		if k < 0 {
			k = last
		}
		l = []int{low, raised(c.V, k)}
	case api.Tilde:
		l = []int{low, raised(c.V, []int{0, 1, 1}[last])}
	case api.Star:
		l = []int{begin, end}
		if c.Parts > 0 {
			l = []int{low, after}
		}
	}
	if n := len(l); l[n-2] == l[n-1] {
		l = l[:n-2]
	}
	return l
}

// P6.2: regions of comparators of every operator and all Parts, by their places.
func TestPlaces(t *testing.T) {
	var l []api.Version
	for _, n := range few {
		for _, m := range few {
			for _, tags := range []string{"", "0", "a"} {
				l = append(l, api.Version{Major: n, Minor: m, Patch: n, Pre: tags})
				l = append(l, api.Version{Major: 1, Minor: n, Patch: m, Pre: tags, Build: "b"})
			}
		}
	}
	empty := 0
	for i, c := range valid() {
		want := spans(c)
		region := Region(c)
		var got []int
		for _, s := range region {
			got = append(got, placeOf(s.From), placeOf(s.To))
		}
		if !slices.Equal(got, want) || !row.May(region) {
			t.Fatalf("Region(%+v): %+v", c, region)
		}
		if len(region) == 0 {
			empty++
		}
		for k, v := range l {
			if (i+k)%10 != 0 {
				continue
			}
			in := false
			for n := 0; n < len(want); n += 2 {
				in = in || want[n] < place(v) && place(v) < want[n+1]
			}
			if row.Has(region, v) != in {
				t.Fatalf("Region(%+v) holds %+v: %v", c, v, !in)
			}
		}
	}
	if empty != 2 {
		t.Errorf("%d regions are empty, not those of >9999 and >9999.9999", empty)
	}
}

// P6.3: the versions with a Pre and the same three numbers.
func TestZone(t *testing.T) {
	for s, want := range map[string]string{
		"=1.2.3-a":              "|1.2.3-0 |1.2.3",
		"!=1.2.3-a.b":           "|1.2.3-0 |1.2.3",
		"<0.0.0-0":              "|0.0.0-0 |0.0.0",
		"<=0.0.1-z":             "|0.0.1-0 |0.0.1",
		">0.1.0-10":             "|0.1.0-0 |0.1.0",
		">=9999.9999.9999-z.z":  "|9999.9999.9999-0 |9999.9999.9999",
		"^1.0.0--":              "|1.0.0-0 |1.0.0",
		"1.0.1-rc.1":            "|1.0.1-0 |1.0.1",
		"~2.3.4-0":              "|2.3.4-0 |2.3.4",
		"=1.2.3":                "",
		"^1.2":                  "",
		"<1":                    "",
		"*":                     "",
		"1.2.*":                 "",
		"!=0.0.0":               "",
		">=9999.9999.9999":      "",
		"~0.0.0-9999.a.a.a":     "|0.0.0-0 |0.0.0",
		"^9999.9999.0-a.a.a.-0": "|9999.9999.0-0 |9999.9999.0",
	} {
		if got := Zone(must(t, s)); !slices.Equal(got, rowOf(t, want)) {
			t.Errorf("Zone of %s: %+v", s, got)
		}
	}
	for _, c := range valid() {
		zone := Zone(c)
		if c.V.Pre == "" {
			if len(zone) != 0 {
				t.Errorf("Zone(%+v): %+v", c, zone)
			}
			continue
		}
		first, release := c.V, c.V
		first.Pre, release.Pre = "0", ""
		want := []api.Span{{From: api.Cut{V: first}, To: api.Cut{V: release}}}
		if !slices.Equal(zone, want) {
			t.Errorf("Zone(%+v): %+v", c, zone)
		}
	}
}

// P6.4: what is printed is read back.
func TestConsequence(t *testing.T) {
	seen := map[string]bool{}
	l := valid()
	for _, c := range l {
		s := Print(c)
		if got, err := Parse(s); err != api.OK || got != c {
			t.Errorf("Parse(%q): %+v, %v; want %+v", s, got, err, c)
		}
		seen[s] = true
	}
	if len(seen) != len(l) {
		t.Errorf("%d comparators have %d strings", len(l), len(seen))
	}
}

// within reports whether s begins in the memory of whole.
func within(s, whole string) bool {
	if s == "" || whole == "" {
		return false
	}
	from := uintptr(unsafe.Pointer(unsafe.StringData(whole)))
	p := uintptr(unsafe.Pointer(unsafe.StringData(s)))
	return from <= p && p < from+uintptr(len(whole))
}

// R4 for P6.1 to P6.3: results share no memory with arguments or one another.
func TestMemory(t *testing.T) {
	for _, sample := range append(samples, "1.2.3-a.b", "^1.2.3-a", "=1.2.3-a", "9999.1.1-0", "^0.0.1-0") {
		s := string([]byte(sample))
		c := must(t, s)
		again := must(t, s)
		old := []string{s}
		check := func(l ...string) {
			for _, x := range l {
				if slices.ContainsFunc(old, func(o string) bool { return within(x, o) }) {
					t.Errorf("a result for %s has a string of before", s)
				}
				old = append(old, x)
			}
		}
		check(c.V.Pre, again.V.Pre, Print(c), Print(c))
		results := [][]api.Span{Region(c), Region(c), Zone(c), Zone(c)}
		was := [][]api.Span{Region(c), Region(c), Zone(c), Zone(c)}
		for i, l := range results {
			for _, x := range l {
				check(x.From.V.Pre, x.To.V.Pre)
			}
			if !slices.Equal(l, was[i]) {
				t.Errorf("result %d for %s shares memory with one before", i, s)
			}
			clear(l[:cap(l)])
		}
	}
}

// R1 for P6.1 to P6.3: strings of any length are held against their limits.
func TestLongStrings(t *testing.T) {
	for _, x := range []string{"0", "1", "a", ".", "-", "1.", "a.", "*", "=", "!=", "<", "^", "*.", "-a.", "\xff", "1.2.3-a"} {
		long := strings.Repeat(x, api.MaxIndex)
		for _, s := range []string{long, "=" + long, "1." + long, "1.2.3-" + long, long + "1.2.3", long + ".*", "1.2.3" + long} {
			if c, err := Parse(s); err != api.ErrRange || c != (api.Comp{}) {
				t.Errorf("Parse of many %q: %v", x, err)
			}
		}
		for op := api.Eq; op <= api.Star; op++ {
			for _, v := range []api.Version{{Pre: long}, {Major: 1, Build: long}} {
				c := api.Comp{Op: op, Parts: 1 + op%3, V: v}
				if May(c) || Print(c) != "" || len(Region(c)) != 0 || len(Zone(c)) != 0 {
					t.Errorf("a comparator with many %q is valid", x)
				}
			}
		}
	}
}

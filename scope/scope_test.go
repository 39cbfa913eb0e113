package scope

import (
	"math/rand"
	"regexp"
	"slices"
	"strings"
	"testing"
	"time"
	"unsafe"

	"linchpin/api"
	"linchpin/comp"
	"linchpin/cut"
	"linchpin/row"
	"linchpin/set"
	"linchpin/version"
)

// ver is the version whose string is s.
func ver(t *testing.T, s string) api.Version {
	t.Helper()
	v, err := version.Parse(s)
	if err != api.OK {
		t.Fatalf("version.Parse(%q): %v", s, err)
	}
	return v
}

// one is the comparator whose string is s.
func one(t *testing.T, s string) api.Comp {
	t.Helper()
	c, err := comp.Parse(s)
	if err != api.OK {
		t.Fatalf("comp.Parse(%q): %v", s, err)
	}
	return c
}

// rangeOf is the range of some alternatives, each of comparators with spaces
// between them.
func rangeOf(t *testing.T, alts ...string) api.Range {
	t.Helper()
	var r api.Range
	for _, alt := range alts {
		var l []api.Comp
		for _, s := range strings.Fields(alt) {
			l = append(l, one(t, s))
		}
		r.Alts = append(r.Alts, l)
	}
	return r
}

// must is the range whose string is s.
func must(t *testing.T, s string) api.Range {
	t.Helper()
	r, err := Parse(s)
	if err != api.OK {
		t.Fatalf("Parse(%q): %v", s, err)
	}
	return r
}

// same reports whether a and b have the same comparators.
func same(a, b api.Range) bool {
	return slices.EqualFunc(a.Alts, b.Alts, slices.Equal[[]api.Comp])
}

// checkNot holds every function against a range that is not valid.
func checkNot(t *testing.T, r api.Range) {
	t.Helper()
	if May(r) {
		t.Errorf("May(%+v) is true", r)
	}
	if s := Print(r); s != "" {
		t.Errorf("Print(%+v): %q", r, s)
	}
	if s := Set(r); len(s.Rel) != 0 || len(s.Pre) != 0 {
		t.Errorf("Set(%+v): %+v", r, s)
	}
}

// checkError holds Parse and Of against a string that they refuse.
func checkError(t *testing.T, s string, want api.Errno) {
	t.Helper()
	if r, err := Parse(s); err != want || len(r.Alts) != 0 {
		t.Errorf("Parse(%q): %+v, %v; want %v", s, r, err, want)
	}
	if x, err := Of(s); err != want || len(x.Rel) != 0 || len(x.Pre) != 0 {
		t.Errorf("Of(%q): %+v, %v; want %v", s, x, err, want)
	}
}

// P7.1: ranges and their strings, with and without spaces and signs.
func TestStrings(t *testing.T) {
	for _, x := range []struct {
		r       api.Range
		printed string
		also    []string
	}{
		{rangeOf(t, "*"), "*", []string{" *", "* ", "  *   "}},
		{rangeOf(t, "^1.2"), "^1.2", []string{"1.2", " 1.2", "1.2 ", " ^1.2 "}},
		{rangeOf(t, "^1.2.3-rc.1"), "^1.2.3-rc.1", []string{"1.2.3-rc.1", "   1.2.3-rc.1"}},
		{rangeOf(t, "=1 !=1.2 <2 <=3 >4 >=5"), "=1, !=1.2, <2, <=3, >4, >=5",
			[]string{"=1,!=1.2,<2,<=3,>4,>=5", " =1 , !=1.2 ,<2  ,  <=3,>4,>=5   "}},
		{rangeOf(t, "=1", "!=1.2", "<2", "~3", "0.*", "7.8.*"), "=1 || !=1.2 || <2 || ~3 || 0.* || 7.8.*",
			[]string{"=1||!=1.2||<2||~3||0.*||7.8.*", "=1|| !=1.2 ||<2  ||   ~3||0.* ||7.8.* "}},
		{rangeOf(t, ">=1 <2", "=3.1.4"), ">=1, <2 || =3.1.4", []string{" >=1 , <2||  =3.1.4 ", ">=1,<2||=3.1.4"}},
		{rangeOf(t, "^1", "^2 ^3", "^4"), "^1 || ^2, ^3 || ^4", []string{"1||2,3||4", "1 || 2 , 3 || ^4"}},
		{rangeOf(t, "=1.2.3-a-b", "!=0.0.0-0"), "=1.2.3-a-b || !=0.0.0-0", []string{"=1.2.3-a-b||!=0.0.0-0"}},
		{rangeOf(t, "* *", "*"), "*, * || *", []string{"*,*||*", "* ,*|| *"}},
		{rangeOf(t, "^9 ^9", "^9 ^9"), "^9, ^9 || ^9, ^9", []string{"9,9||9,9"}},
	} {
		if !May(x.r) {
			t.Errorf("May(%+v) is false", x.r)
		}
		if s := Print(x.r); s != x.printed {
			t.Errorf("Print(%+v): %q; want %q", x.r, s, x.printed)
		}
		for _, s := range append(x.also, x.printed) {
			if r, err := Parse(s); err != api.OK || !same(r, x.r) {
				t.Errorf("Parse(%q): %+v, %v; want %+v", s, r, err, x.r)
			}
		}
	}
}

// P7.1: strings that no range has.
func TestNoStrings(t *testing.T) {
	for _, s := range []string{
		"", " ", "     ", ",", ",,", " , ", "||", " || ", "|", "|||", "||||", ",||,", "||,||",
		"1,", ",1", "1,,2", "1, ,2", " ,1", "1, ", "1||", "||1", "1||||2", "1|| ||2", "|| 1", "1 || ",
		"1,||2", "1||,2", "1||2,", ",1||2", "1|2", "1|||2", "|1", "1|", "|1|", "1| |2", "1 |  | 2", "1|,|2",
		"1 2", "1 , 2 3", "> 1", "^ 1", ">= 1", "> =1", "1 .2", "1. 2", "1. *", "1.2.3 -a", "1.2.3- a", "1.2.3-a .b",
		"1\t", "\t1", "1\n", "\n1", "1\r", "1\v", "1\f", "1\x00", "\x001", "\u00a01", "1\u2003", "\u30001", "1\u0085",
		"1,\t2", "1\t||2", "1;2", "1&&2", "1 and 2", "1 or 2", "1 - 2", "1&2", "(1)", "1,2||(3)", "x", "latest",
		"==1", "=>1", "1.x", "01", "10000", "1.2.3.4", "1.2.3+b", "=1.2.3-A", "1.2-a", "=*", "1,x", "x,1", "1||x", "x||1",
		"1,2||3,x||4", "\xff", "1,\xff", "1||\xff2", "1\uff0c2",
		"1||2||3||4||5||6||7", "1,2,3,4,5,6,7", "1,2,3,4,5,6,7||1", "1||1,2,3,4,5,6,7", "1||2||3||4||5||6||7,8",
		"1||2||3||4||5||6,7,8,9,10,11,12", "1||2||3||4||5||6||", "1,2,3,4,5,6,", ",1,2,3,4,5,6", "||1||2||3||4||5||6",
		strings.Repeat("*||", 31) + "*", strings.Repeat("*,", 47) + "*", strings.Repeat("1,1||", 18) + "1",
		strings.Repeat("|", 96), strings.Repeat(",", 96), strings.Repeat(" ", 96), strings.Repeat("x", 96),
	} {
		checkError(t, s, api.ErrRange)
	}
}

// P7.1: the least and the greatest numbers of alternatives and comparators.
func TestNumbers(t *testing.T) {
	c := one(t, "*")
	for alts := range 9 {
		for comps := range 9 {
			for place := range max(alts, 1) {
				// All alternatives have one comparator, but that at place.
				var r api.Range
				var printed []string
				for i := range alts {
					n := 1
					if i == place {
						n = comps
					}
					r.Alts = append(r.Alts, slices.Repeat([]api.Comp{c}, n))
					printed = append(printed, strings.Join(slices.Repeat([]string{"*"}, n), ", "))
				}
				s := strings.Join(printed, " || ")
				if 1 <= alts && alts <= 6 && 1 <= comps && comps <= 6 {
					if !May(r) || Print(r) != s || !same(must(t, s), r) {
						t.Errorf("%d alternatives, one of %d comparators: %q", alts, comps, Print(r))
					}
					continue
				}
				checkNot(t, r)
				checkError(t, s, api.ErrRange)
			}
		}
	}
	for _, r := range []api.Range{{}, {Alts: [][]api.Comp{}}, {Alts: [][]api.Comp{{}}}, {Alts: [][]api.Comp{nil}}, {Alts: [][]api.Comp{{c}, nil}}, {Alts: [][]api.Comp{{}, {c}}}} {
		checkNot(t, r)
	}
}

// P7.1: a comparator that is not valid, at any place.
func TestNoComparators(t *testing.T) {
	for _, bad := range []api.Comp{
		{}, {Op: api.Eq}, {Op: api.Star, Parts: 3}, {Op: 10, Parts: 1}, {Op: -1, Parts: 1},
		{Op: api.Caret, Parts: 4}, {Op: api.Caret, Parts: 1, V: api.Version{Minor: 1}},
		{Op: api.Caret, Parts: 3, V: api.Version{Major: 10000}}, {Op: api.Ge, Parts: 3, V: api.Version{Major: -1}},
		{Op: api.Eq, Parts: 3, V: api.Version{Build: "b"}}, {Op: api.Eq, Parts: 3, V: api.Version{Pre: "A"}},
		{Op: api.Eq, Parts: 2, V: api.Version{Pre: "a"}}, {Op: api.Star, V: api.Version{Pre: "a"}},
	} {
		r := rangeOf(t, "=1 =2 =3", "=4", "=5 =6")
		for _, alt := range r.Alts {
			for i := range alt {
				good := alt[i]
				if !May(r) {
					t.Fatalf("May(%+v) is false", r)
				}
				alt[i] = bad
				checkNot(t, r)
				alt[i] = good
			}
		}
	}
}

// long is the valid comparator with a string of n bytes, from 8 to 43.
func long(t *testing.T, n int) api.Comp {
	t.Helper()
	tags := "aaaaaaaa.aaaaaaaa.aaaaaaaa.aaaaaaaa"
	s := "=1.2.3-" + tags[:n-7]
	if strings.HasSuffix(s, ".") {
		s = "=1.2.33-" + tags[:n-8]
	}
	return one(t, s)
}

// P7.1: strings of as many bytes as there may be, and of more.
func TestLengths(t *testing.T) {
	met := map[int]int{}
	for a := 8; a <= 42; a++ {
		for _, b := range []int{8, 19, 28, 37, 42} {
			x, y, z := long(t, a), long(t, b), one(t, "*")
			l := []string{comp.Print(x), comp.Print(y), comp.Print(z)}
			for s, r := range map[string]api.Range{
				l[0] + ", " + l[1] + ", " + l[2]:     {Alts: [][]api.Comp{{x, y, z}}},
				l[0] + " || " + l[1] + " || " + l[2]: {Alts: [][]api.Comp{{x}, {y}, {z}}},
				l[2] + ", " + l[0] + " || " + l[1]:   {Alts: [][]api.Comp{{z, x}, {y}}},
				l[0] + ", " + l[1] + " || " + strings.Repeat(l[2]+", ", 5) + l[2]: {
					Alts: [][]api.Comp{{x, y}, {z, z, z, z, z, z}}},
			} {
				met[len(s)]++
				if len(s) <= 96 {
					if !May(r) || Print(r) != s || !same(must(t, s), r) {
						t.Errorf("%d bytes: Print: %q; want %q", len(s), Print(r), s)
					}
					continue
				}
				checkNot(t, r)
				checkError(t, s, api.ErrLong)
				tight := strings.ReplaceAll(s, " ", "")
				if len(tight) <= 96 {
					checkError(t, tight, api.ErrLong)
				}
			}
		}
	}
	if met[95] == 0 || met[96] == 0 || met[97] == 0 || met[98] == 0 {
		t.Errorf("the lengths of the strings: %v", met)
	}
}

// P7.1: which error comes first.
func TestErrors(t *testing.T) {
	six := "1,1,1,1,1,1"
	for s, want := range map[string]api.Errno{
		strings.Repeat("x", 97):                           api.ErrLong,
		strings.Repeat("|", 97):                           api.ErrLong,
		strings.Repeat("*,", 48) + "*":                    api.ErrLong,
		strings.Repeat(" ", 97):                           api.ErrLong,
		"1" + strings.Repeat(" ", 96):                     api.ErrLong,
		strings.Repeat(" ", 96) + "*":                     api.ErrLong,
		"1" + strings.Repeat(" ", 95):                     api.OK,
		strings.Repeat(" ", 95) + "*":                     api.OK,
		"1," + strings.Repeat(" ", 93) + "1":              api.OK,
		"1," + strings.Repeat(" ", 94) + "1":              api.ErrLong,
		strings.Repeat(six+"||", 3) + "1,1,1,1,1":         api.OK,       // printed with 96 bytes
		strings.Repeat(six+"||", 3) + "1,1,1,1,10":        api.ErrLong,  // with 97
		strings.Repeat(six+"||", 3) + "1,1,1,1,1 ":        api.OK,       // spaces are not printed
		strings.Repeat(six+"||", 3) + six:                 api.ErrLong,  // with 100
		strings.Repeat(six+"||", 3) + six + ",1":          api.ErrRange, // too many comparators, and too long
		strings.Repeat(six+"||", 3) + six + ",x":          api.ErrRange,
		strings.Repeat(six+"||", 3) + six + ",":           api.ErrRange,
		"x," + strings.Repeat(six+"||", 3) + six:          api.ErrRange,
		strings.Repeat(six+"||", 5) + six:                 api.ErrLong,
		strings.Repeat(six+"||", 5) + "1,1,1,1,1,x":       api.ErrRange,
		strings.Repeat(six+"||", 5) + six + "||1":         api.ErrRange, // too many alternatives, and too long
		strings.Repeat(six+"||", 5) + six + ",1,1,1,1":    api.ErrRange,
		strings.Repeat(six+"||", 6) + six + "||" + six:    api.ErrLong, // itself of more than 96 bytes
		strings.Repeat("=1.2.3-a||", 9) + "=1.2.3":        api.ErrRange,
		"=1.2.3-" + strings.Repeat("aaaaaaaa.", 4) + "a":  api.ErrRange,
		"=1.2.3-" + strings.Repeat("aaaaaaaa.", 10) + "a": api.ErrLong,
	} {
		if want != api.OK {
			checkError(t, s, want)
		} else if r, err := Parse(s); err != api.OK || !May(r) {
			t.Errorf("Parse(%q): %v", s, err)
		}
	}
}

// The patterns of the document: a comparator of comp, a range.
const (
	number = `(?:0|[1-9][0-9]{0,3})`
	tag    = `(?:0|[1-9][0-9]{0,3}|[0-9]*[a-z-][0-9a-z-]*)`
	plain  = `(?:=|!=|<=?|>=?|\^|~)?` + number + `(?:\.` + number + `(?:\.` + number + `(?:-` + tag + `(?:\.` + tag + `){0,3})?)?)?`
	star   = `(?:` + number + `\.){0,2}\*`
	single = ` *(?:` + plain + `|` + star + `) *`
	every6 = single + `(?:,` + single + `){0,5}`
)

var (
	whole   = regexp.MustCompile(`^` + every6 + `(?:\|\|` + every6 + `){0,5}$`)
	longTag = regexp.MustCompile(`[0-9a-z-]{9}`)
	carets  = regexp.MustCompile(`(^|[,|])(` + plain + `)`)
)

// read is the string that Print returns for the range that s denotes, and the error
// of Parse.
func read(s string) (string, api.Errno) {
	if len(s) > 96 {
		return "", api.ErrLong
	}
	if !whole.MatchString(s) {
		return "", api.ErrRange
	}
	for _, rest := range strings.FieldsFunc(s, func(c rune) bool { return strings.ContainsRune(" ,|", c) }) {
		_, tags, _ := strings.Cut(rest, "-")
		if longTag.MatchString(tags) {
			return "", api.ErrRange
		}
	}
	s = strings.ReplaceAll(s, " ", "")
	s = carets.ReplaceAllStringFunc(s, func(x string) string {
		sep := ""
		if x[0] == ',' || x[0] == '|' {
			sep, x = x[:1], x[1:]
		}
		if '0' <= x[0] && x[0] <= '9' {
			sep += "^"
		}
		return sep + x
	})
	// The pattern of carets takes the numbers of a star for those of a caret.
	s = regexp.MustCompile(`\^((?:[0-9]+\.){1,2}\*)`).ReplaceAllString(s, "$1")
	s = strings.ReplaceAll(strings.ReplaceAll(s, ",", ", "), "||", " || ")
	if len(s) > 96 {
		return "", api.ErrLong
	}
	return s, api.OK
}

// checkParse holds Parse, Print, May and Of against the reader above.
func checkParse(t *testing.T, s string) api.Errno {
	t.Helper()
	want, err := read(s)
	r, got := Parse(s)
	if got != err || Print(r) != want || May(r) != (err == api.OK) {
		t.Fatalf("Parse(%q): %+v, %v; want %q, %v", s, r, got, want, err)
	}
	if err != api.OK {
		checkError(t, s, err)
		return err
	}
	if x, err := Of(s); err != api.OK || !set.Same(x, Set(r)) {
		t.Fatalf("Of(%q): %+v, %v", s, x, err)
	}
	var alts []string
	for _, alt := range strings.Split(want, " || ") {
		alts = append(alts, strings.ReplaceAll(alt, ", ", " "))
	}
	if !same(r, rangeOf(t, alts...)) {
		t.Fatalf("Parse(%q): %+v", s, r)
	}
	return api.OK
}

// P7.1, P7.2: all strings of a few short pieces.
func TestShortStrings(t *testing.T) {
	pieces := []string{"1", "*", "<", ".", "|", "||", ",", " ", "1.2.3-a", "\t"}
	met := 0
	level := []string{""}
	for range 6 {
		var next []string
		for _, s := range level {
			if checkParse(t, s) == api.OK {
				met++
			}
			for _, x := range pieces {
				next = append(next, s+x)
			}
		}
		level = next
	}
	if met < 500 {
		t.Errorf("only %d strings are those of ranges", met)
	}
}

// P7.1: strings of ranges in which one byte is changed, inserted or left out.
func TestNearStrings(t *testing.T) {
	for _, s := range []string{"1", ">=1.2, <2 || =3.1.4-a", " *||1.* ,!=1.2.3", "1,2,3,4,5,6||1||2||3||4||5"} {
		for i := range len(s) + 1 {
			checkParse(t, s[:i])
			checkParse(t, s[i:])
			for b := range 256 {
				x := string([]byte{byte(b)})
				checkParse(t, s[:i]+x+s[i:])
				if i < len(s) {
					checkParse(t, s[:i]+x+s[i+1:])
				}
			}
			if i < len(s) {
				checkParse(t, s[:i]+s[i+1:])
			}
		}
	}
}

// P7.1, P7.2: strings of random comparators, some too long, some not valid.
func TestPieces(t *testing.T) {
	pieces := []string{
		"1", "2.3", "=1.2.3", "!=4", "<=9999.9999.9999-abcdefgh.12", "~0.0.1", "*", "7.*", "1.2.*", ">1.2.3-a", "^0",
		"<10.20.30-rc.1", ">=2", "=1.2.3-a.b.c.d",
	}
	wrong := []string{"", "x", "1.2.3.4", "=10000", "=1.2.3-abcdefghi", "1 1", "|"}
	spaces := []string{"", "", "", "", " ", "  "}
	r := rand.New(rand.NewSource(71))
	pick := func(l []string) string { return l[r.Intn(len(l))] }
	met := map[api.Errno]int{}
	for range 12000 {
		s := ""
		for i := range 1 + r.Intn(7) {
			if i > 0 {
				s += "||"
			}
			for k := range 1 + r.Intn(1+r.Intn(7)) {
				if k > 0 {
					s += ","
				}
				x := pick(pieces)
				if r.Intn(60) == 0 {
					x = pick(wrong)
				}
				s += pick(spaces) + x + pick(spaces)
			}
		}
		err := checkParse(t, s)
		if err == api.ErrLong && len(s) <= 96 {
			err = -1
		}
		met[err]++
	}
	for _, err := range []api.Errno{api.OK, api.ErrRange, api.ErrLong, -1} {
		if met[err] < 100 {
			t.Errorf("the errors: %v", met)
		}
	}
}

// rowOf is the row of some cuts, two of them for each span: "-" and "+" are the
// ends, "|1.2.3" is the cut before 1.2.3, and "1.2.3|" the cut after it.
func rowOf(t *testing.T, s string) []api.Span {
	t.Helper()
	var cuts []api.Cut
	for _, x := range strings.Fields(s) {
		switch x {
		case "-":
			cuts = append(cuts, api.Cut{End: -1})
		case "+":
			cuts = append(cuts, api.Cut{End: 1})
		default:
			cuts = append(cuts, api.Cut{V: ver(t, strings.Trim(x, "|")), After: x[0] != '|'})
		}
	}
	var l []api.Span
	for i := 0; i < len(cuts); i += 2 {
		l = append(l, api.Span{From: cuts[i], To: cuts[i+1]})
	}
	return l
}

// P7.2: the rows of the sets of ranges, Rel and Pre.
func TestSet(t *testing.T) {
	for s, want := range map[string][2]string{
		"*":                                 {"- +", ""},
		"1.2.3":                             {"|1.2.3 |2.0.0", ""},
		"=1.2.3":                            {"|1.2.3 |1.2.4", ""},
		"=0.0.0":                            {"- |0.0.1", ""},
		"=1.2":                              {"|1.2.0 |1.3.0", ""},
		"!=1.2.3":                           {"- |1.2.3 |1.2.4 +", ""},
		">1.2.3":                            {"|1.2.4 +", ""},
		"<=1.2.3":                           {"- |1.2.4", ""},
		">9999.9999.9999":                   {"", ""},
		">9999":                             {"", ""},
		"<0":                                {"", ""},
		"<0.0.1":                            {"- |0.0.1", ""},
		"<=9999.9999.9999":                  {"- +", ""},
		">=0":                               {"- +", ""},
		"=1.2.3-a":                          {"", "|1.2.3-a 1.2.3-a|"},
		"!=1.2.3-a":                         {"- +", "|1.2.3-0 |1.2.3-a 1.2.3-a| |1.2.3"},
		"<1.2.3-a":                          {"- |1.2.3", "|1.2.3-0 |1.2.3-a"},
		"<=1.2.3-a":                         {"- |1.2.3", "|1.2.3-0 1.2.3-a|"},
		">1.2.3-a":                          {"|1.2.3 +", "1.2.3-a| |1.2.3"},
		">=1.2.3-a":                         {"|1.2.3 +", "|1.2.3-a |1.2.3"},
		"1.2.3-a":                           {"|1.2.3 |2.0.0", "|1.2.3-a |1.2.3"},
		"~1.2.3-a":                          {"|1.2.3 |1.3.0", "|1.2.3-a |1.2.3"},
		"^0.0.0-0":                          {"- |0.0.1", "|0.0.0-0 |0.0.0"},
		"<0.0.0-0":                          {"", ""},
		"<1.2.3-0":                          {"- |1.2.3", ""},
		">=9999.9999.9999-a":                {"|9999.9999.9999 +", "|9999.9999.9999-a |9999.9999.9999"},
		">=1, <2":                           {"|1.0.0 |2.0.0", ""},
		"<2, >=1":                           {"|1.0.0 |2.0.0", ""},
		"<1, >=2":                           {"", ""},
		">=1, !=1.5, <2":                    {"|1.0.0 |1.5.0 |1.6.0 |2.0.0", ""},
		">=1.2.3-a, <1.2.3-c":               {"", "|1.2.3-a |1.2.3-c"},
		">=1.2.3-a, <2.0.0-b":               {"|1.2.3 |2.0.0", "|1.2.3-a |1.2.3 |2.0.0-0 |2.0.0-b"},
		">=1.2.3-a, <1.2.3":                 {"", "|1.2.3-a |1.2.3"},
		">=1.2.3-a, <2, !=1.2.3-b":          {"|1.2.3 |2.0.0", "|1.2.3-a |1.2.3-b 1.2.3-b| |1.2.3"},
		"!=1.2.3-b, !=1.2.3-a":              {"- +", "|1.2.3-0 |1.2.3-a 1.2.3-a| |1.2.3-b 1.2.3-b| |1.2.3"},
		"!=4.5.6-a, !=1.2.3-a":              {"- +", "|1.2.3-0 |1.2.3-a 1.2.3-a| |1.2.3 |4.5.6-0 |4.5.6-a 4.5.6-a| |4.5.6"},
		"<1.2.3, <4.5.6-a":                  {"- |1.2.3", ""},
		"=1.2.3-a, =1.2.3":                  {"", ""},
		"=1.2.3-a, =1.2.3-b":                {"", ""},
		"=1.2.3-a, =1.2.3-a":                {"", "|1.2.3-a 1.2.3-a|"},
		"*, !=1.0.0-0":                      {"- +", "1.0.0-0| |1.0.0"},
		"1 || 2":                            {"|1.0.0 |3.0.0", ""},
		"1 || 3":                            {"|1.0.0 |2.0.0 |3.0.0 |4.0.0", ""},
		"3 || 1":                            {"|1.0.0 |2.0.0 |3.0.0 |4.0.0", ""},
		"1 || 3 || 2":                       {"|1.0.0 |4.0.0", ""},
		"1 || >=1.5, <4":                    {"|1.0.0 |4.0.0", ""},
		">9999 || =1":                       {"|1.0.0 |2.0.0", ""},
		"=1.2.3-a || =1.2.3":                {"|1.2.3 |1.2.4", "|1.2.3-a 1.2.3-a|"},
		"=1.2.3-a || *":                     {"- +", "|1.2.3-a 1.2.3-a|"},
		">=1.2.3-a || <1.2.3":               {"- +", "|1.2.3-a |1.2.3"},
		">=1.2.3-a || <1.2.3-b":             {"- +", "|1.2.3-0 |1.2.3"},
		">=2.0.0-a || <2.0.0, >=1.0.0-a":    {"|1.0.0 +", "|1.0.0-a |1.0.0 |2.0.0-a |2.0.0"},
		"=1.0.0-b || =1.0.0-a || =1.0.0-c":  {"", "|1.0.0-a 1.0.0-a| |1.0.0-b 1.0.0-b| |1.0.0-c 1.0.0-c|"},
		"1||2||3||4||5||6":                  {"|1.0.0 |7.0.0", ""},
		"1||3||5||7||9||11":                 {"|1.0.0 |2.0.0 |3.0.0 |4.0.0 |5.0.0 |6.0.0 |7.0.0 |8.0.0 |9.0.0 |10.0.0 |11.0.0 |12.0.0", ""},
		"!=1,!=2,!=3,!=4,!=5,!=6":           {"- |1.0.0 |7.0.0 +", ""},
		"!=1.0.0,!=1.0.2,!=1.0.4,!=1.0.6":   {"- |1.0.0 |1.0.1 |1.0.2 |1.0.3 |1.0.4 |1.0.5 |1.0.6 |1.0.7 +", ""},
		"=1.2.3-a, 9 || 1, 2, 3 || =4, !=4": {"", ""},
	} {
		x := api.Set{Rel: rowOf(t, want[0]), Pre: rowOf(t, want[1])}
		if got := Set(must(t, s)); !set.Same(got, x) {
			t.Errorf("Set of %q: %+v", s, got)
		}
		if got, err := Of(s); err != api.OK || !set.Same(got, x) {
			t.Errorf("Of(%q): %+v, %v", s, got, err)
		}
	}
}

// chance is a comparator of small numbers.
func chance(r *rand.Rand) api.Comp {
	c := api.Comp{Op: 1 + r.Intn(9), Parts: min(1+r.Intn(5), 3)}
	if c.Op == api.Star {
		c.Parts = r.Intn(3)
	}
	for i, n := range []*int{&c.V.Major, &c.V.Minor, &c.V.Patch}[:c.Parts] {
		*n = []int{0, 1, 1, 1, 2}[r.Intn(5)]
		if i == 0 && r.Intn(20) == 0 {
			*n = 9999
		}
	}
	if c.Parts == 3 && c.Op != api.Star && r.Intn(4) > 0 {
		c.V.Pre = []string{"0", "a", "a.1", "z"}[r.Intn(4)]
	}
	return c
}

// ranges are n valid ranges by chance.
func ranges(n int) []api.Range {
	r := rand.New(rand.NewSource(72))
	var l []api.Range
	for len(l) < n {
		var x api.Range
		for range 1 + r.Intn(3) {
			var alt []api.Comp
			for range 1 + r.Intn(3) {
				alt = append(alt, chance(r))
			}
			x.Alts = append(x.Alts, alt)
		}
		if May(x) {
			l = append(l, x)
		}
	}
	return l
}

// preOf is the Pre of the set of r, put together from the segments between the cuts
// of its comparators.
func preOf(r api.Range) []api.Span {
	cuts := []api.Cut{{End: -1}, {End: 1}}
	for _, alt := range r.Alts {
		for _, c := range alt {
			for _, x := range slices.Concat(comp.Region(c), comp.Zone(c)) {
				cuts = append(cuts, x.From, x.To)
			}
		}
	}
	slices.SortFunc(cuts, cut.Compare)
	cuts = slices.Compact(cuts)
	var l []api.Span
	for i := 1; i < len(cuts); i++ {
		segment := []api.Span{{From: cuts[i-1], To: cuts[i]}}
		if !slices.ContainsFunc(r.Alts, func(alt []api.Comp) bool {
			zone := false
			for _, c := range alt {
				if !row.Within(segment, comp.Region(c)) {
					return false
				}
				zone = zone || row.Within(segment, comp.Zone(c))
			}
			return zone
		}) {
			continue
		}
		if last := len(l) - 1; last >= 0 && l[last].To == cuts[i-1] {
			l[last].To = cuts[i]
		} else {
			l = append(l, segment[0])
		}
	}
	return l
}

// P7.2: the set of a range is valid, and its Pre is that of its segments. (That a
// valid set has the right Rel is told by its releases: see below.)
func TestSegments(t *testing.T) {
	long := 0
	for _, r := range ranges(3000) {
		s := Set(r)
		want := preOf(r)
		if !set.May(s) || !slices.Equal(s.Pre, want) {
			t.Fatalf("Set of %q: %+v; want Pre %+v", Print(r), s, want)
		}
		if len(want) > 1 {
			long++
		}
	}
	if long < 200 {
		t.Errorf("only %d sets have more than one span of Pre", long)
	}
}

// P7.3: which versions belong to the set of a range.
func TestConsequence(t *testing.T) {
	var near []api.Version
	for _, major := range []int{0, 1, 2, 9999} {
		for _, minor := range []int{0, 1, 2} {
			for _, patch := range []int{0, 1, 2, 3} {
				v := api.Version{Major: major, Minor: minor, Patch: patch}
				near = append(near, v)
				for _, v.Pre = range []string{"0", "0.0", "a", "a.0", "a.1", "a.1.0", "y", "z", "z.z"} {
					near = append(near, v)
				}
				v.Build = "b.1"
				near = append(near, v)
			}
		}
	}
	met := map[string]int{}
	for i, r := range ranges(400) {
		s := Set(r)
		for k, v := range near {
			if (i+k)%2 != 0 {
				continue
			}
			want := false
			for _, alt := range r.Alts {
				all, zone := true, v.Pre == ""
				for _, c := range alt {
					all = all && row.Has(comp.Region(c), v)
					same := api.Version{Major: v.Major, Minor: v.Minor, Patch: v.Patch, Pre: c.V.Pre} == c.V
					zone = zone || c.V.Pre != "" && same
				}
				want = want || all && zone
			}
			if set.Has(s, v) != want {
				t.Fatalf("the set of %q holds %s: %v", Print(r), version.Print(v), !want)
			}
			if want {
				met[v.Pre]++
			}
		}
	}
	if met[""] < 1000 || met["a"] < 30 || met["a.1.0"] < 30 {
		t.Errorf("too few versions belong to sets: %v", met)
	}
}

// P7.1 (T3): what is printed is read back.
func TestRoundTrip(t *testing.T) {
	for _, r := range ranges(3000) {
		s := Print(r)
		if got := must(t, s); !same(got, r) || Print(got) != s {
			t.Fatalf("Parse(%q): %+v; want %+v", s, got, r)
		}
	}
}

// inside reports whether s begins in the memory of whole.
func inside(s, whole string) bool {
	if s == "" || whole == "" {
		return false
	}
	from := uintptr(unsafe.Pointer(unsafe.StringData(whole)))
	p := uintptr(unsafe.Pointer(unsafe.StringData(s)))
	return from <= p && p < from+uintptr(len(whole))
}

// pres are the strings of a range or of some rows.
func pres(r api.Range, rows ...[]api.Span) []string {
	var l []string
	for _, alt := range r.Alts {
		for _, c := range alt {
			l = append(l, c.V.Pre)
		}
	}
	for _, x := range slices.Concat(rows...) {
		l = append(l, x.From.V.Pre, x.To.V.Pre)
	}
	return l
}

// R4 for P7.1 and P7.2: results share no strings with arguments or one another.
func TestStringMemory(t *testing.T) {
	for _, sample := range []string{
		"=1.2.3-a", "*", "1.2.3-a.b, <1.2.3-c || >=4.5.6-rc.1", "!=1.2.3-a, !=1.2.3-b || 7", "=1.2.3-0 || =1.2.3-0",
	} {
		s := string([]byte(sample))
		old := []string{s}
		check := func(l ...string) {
			t.Helper()
			for _, x := range l {
				if slices.ContainsFunc(old, func(o string) bool { return inside(x, o) }) {
					t.Errorf("a result for %q has a string of before", s)
				}
				old = append(old, x)
			}
		}
		r := must(t, s)
		check(pres(r)...)
		check(pres(must(t, s))...)
		check(Print(r), Print(r))
		for range 2 {
			a, b := Set(r), must(t, s)
			check(pres(b, a.Rel, a.Pre)...)
			c, _ := Of(s)
			check(pres(api.Range{}, c.Rel, c.Pre)...)
		}
	}
}

// R4 for P7.1 and P7.2: results share no lists with arguments, with one another or
// within themselves.
func TestListMemory(t *testing.T) {
	for _, s := range []string{"=1.2.3-a", "1, 2, 3 || 4 || 5, 6", "!=1.2.3-a, !=1.2.3-b || 7", "1||2||3||4,5,6,7,8||9||10"} {
		r, again := must(t, s), must(t, s)
		want := Set(r)
		x, y := Set(r), Set(r)
		clear(x.Rel[:cap(x.Rel)])
		if !slices.Equal(x.Pre, want.Pre) || !set.Same(y, want) || !set.Same(Set(r), want) {
			t.Errorf("the Rel of the set of %q shares its memory", s)
		}
		clear(y.Pre[:cap(y.Pre)])
		if !slices.Equal(y.Rel, want.Rel) || !set.Same(Set(r), want) {
			t.Errorf("the Pre of the set of %q shares its memory", s)
		}
		if !same(r, again) {
			t.Errorf("the sets of %q share memory with it", s)
		}
		for i := range r.Alts {
			a := must(t, s)
			l := a.Alts[i]
			clear(l[:cap(l)])
			a.Alts[i] = slices.Clone(again.Alts[i])
			if !same(a, again) {
				t.Errorf("two alternatives of Parse(%q) share memory", s)
			}
		}
		clear(r.Alts[:cap(r.Alts)])
		if !same(again, must(t, s)) {
			t.Errorf("two results of Parse(%q) share memory", s)
		}
	}
}

// R4 for P7.1 and P7.2: arguments stay as they are, and so does what lies behind
// them.
func TestArguments(t *testing.T) {
	mark := one(t, "=7.7.7-mark")
	for _, s := range []string{"=1.2.3-a", "1, 2, 3 || 4 || 5, 6", "!=1.2.3-b, !=1.2.3-a || >=3"} {
		want := must(t, s)
		r := api.Range{Alts: slices.Repeat([][]api.Comp{{mark}}, 9)}
		for i, alt := range want.Alts {
			l := slices.Repeat([]api.Comp{mark}, 9)
			copy(l, alt)
			r.Alts[i] = l[:len(alt)]
		}
		r.Alts = r.Alts[:len(want.Alts)]
		for range 2 {
			May(r)
			Print(r)
			Set(r)
		}
		if !same(r, want) {
			t.Errorf("%q was changed: %+v", s, r)
		}
		for i, alt := range r.Alts[:9] {
			k := 0
			if i < len(r.Alts) {
				k = len(alt)
				alt = alt[:9]
			}
			for _, c := range alt[k:] {
				if c != mark {
					t.Errorf("behind %q: %+v", s, c)
				}
			}
		}
	}
}

// R1 for P7.1 and P7.2: strings and lists of any length are held against their
// limits, at once.
func TestLong(t *testing.T) {
	start := time.Now()
	for _, x := range []string{"0", "1", "1,", "1||", "*", "*,", "*||", " ", "|", ",", "a", "-", "=1.2.3-a.", "\xff", "^", "<="} {
		many := strings.Repeat(x, api.MaxIndex)
		for _, s := range []string{many, "1" + many, many + "1", "1,2||3" + many} {
			if r, err := Parse(s); err != api.ErrLong || len(r.Alts) != 0 {
				t.Errorf("Parse of many %q: %v", x, err)
			}
			if r, err := Of(s); err != api.ErrLong || len(r.Rel) != 0 || len(r.Pre) != 0 {
				t.Errorf("Of many %q: %v", x, err)
			}
		}
	}
	c := one(t, "*")
	huge := slices.Repeat([]api.Comp{c}, 1<<20)
	for _, r := range []api.Range{
		{Alts: [][]api.Comp{huge}},
		{Alts: [][]api.Comp{{c}, huge}},
		{Alts: slices.Repeat([][]api.Comp{{c}}, 1<<20)},
		{Alts: slices.Repeat([][]api.Comp{huge}, 1<<20)},
		{Alts: [][]api.Comp{{c, {Op: api.Eq, Parts: 3, V: api.Version{Pre: strings.Repeat("a.", 1<<20)}}}}},
		{Alts: [][]api.Comp{{c, {Op: api.Eq, Parts: 3, V: api.Version{Build: strings.Repeat("a", 1<<20)}}}}},
	} {
		if May(r) || Print(r) != "" || len(Set(r).Rel) != 0 || len(Set(r).Pre) != 0 {
			t.Errorf("a range of %d alternatives is valid", len(r.Alts))
		}
	}
	if d := time.Since(start); d > 20*time.Second {
		t.Errorf("that took %v", d)
	}
}

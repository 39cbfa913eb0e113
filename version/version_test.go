package version

import (
	"math"
	"regexp"
	"slices"
	"strconv"
	"strings"
	"testing"
	"unsafe"

	"linchpin/api"
)

// strange are strings that no part of a version contains: control bytes, bytes
// outside of UTF-8, and runes that look like digits, letters or hyphens.
var strange = []string{
	"\x00", "\n", "\t", " ", "\x7f", "\x80", "\xff", "\xc3", "\xed\xa0\x80",
	"ä", "а", "١", "１", "ａ", "‐", "−", "\ufffd", "\ufeff", "😀",
}

// outside are numbers that no version contains.
var outside = []int{
	-1, -2, 10000, 10001, 65536, math.MinInt64, math.MaxInt64,
	math.MinInt32, 1 << 32, 1<<32 + 1,
}

// rising are strings of versions, each of which is less than the next one.
var rising = []string{
	"0.0.0-0", "0.0.0-0.0", "0.0.0-0.0.0.0", "0.0.0-0.0.0.a", "0.0.0-0.1",
	"0.0.0-0.-", "0.0.0-1", "0.0.0-1.0", "0.0.0-2", "0.0.0-2.z", "0.0.0-9",
	"0.0.0-10", "0.0.0-10.0", "0.0.0-99", "0.0.0-100", "0.0.0-9999",
	"0.0.0-9999.z.z.z", "0.0.0--", "0.0.0--.0", "0.0.0---", "0.0.0--------",
	"0.0.0--0", "0.0.0--1", "0.0.0--10", "0.0.0--2", "0.0.0--a",
	"0.0.0-0-", "0.0.0-00000-", "0.0.0-00a", "0.0.0-0a", "0.0.0-10a",
	"0.0.0-1a", "0.0.0-99999z", "0.0.0-9a", "0.0.0-a", "0.0.0-a.0",
	"0.0.0-a.0.0", "0.0.0-a.1", "0.0.0-a.1.1.1", "0.0.0-a.2", "0.0.0-a.10",
	"0.0.0-a.-", "0.0.0-a.a", "0.0.0-a.a.a.9", "0.0.0-a.a.a.10",
	"0.0.0-a.a.a.a", "0.0.0-a.b", "0.0.0-a-", "0.0.0-a-.a", "0.0.0-a0",
	"0.0.0-a10", "0.0.0-a2", "0.0.0-aa", "0.0.0-ab", "0.0.0-abcdefgh",
	"0.0.0-b", "0.0.0-b.0", "0.0.0-rc-1", "0.0.0-rc1", "0.0.0-z",
	"0.0.0-zzzzzzzz.zzzzzzzz.zzzzzzzz.zzzzzzzz",
	"0.0.0", "0.0.1-0", "0.0.1", "0.0.2", "0.0.9", "0.0.10", "0.0.9999",
	"0.1.0-z", "0.1.0", "0.1.1", "0.2.0", "0.10.0-0", "0.10.0",
	"0.9999.9999", "1.0.0-0", "1.0.0-rc.9", "1.0.0-rc.10", "1.0.0", "1.0.1",
	"1.1.0", "2.0.0", "9.9999.9999", "10.0.0", "9999.0.0", "9999.9999.9998",
	"9999.9999.9999-0", "9999.9999.9999-z", "9999.9999.9999",
}

// must is the version whose string is s.
func must(t *testing.T, s string) api.Version {
	t.Helper()
	v, err := Parse(s)
	if err != api.OK {
		t.Fatalf("Parse(%q): %v", s, err)
	}
	return v
}

// checkTwoWays holds May, Print and Parse against a valid version and its
// string.
func checkTwoWays(t *testing.T, v api.Version, s string) {
	t.Helper()
	if !May(v) {
		t.Errorf("May(%+v) is false", v)
	}
	if got := Print(v); got != s {
		t.Errorf("Print(%+v): %q", v, got)
	}
	if got, err := Parse(s); got != v || err != api.OK {
		t.Errorf("Parse(%q): %+v, %v", s, got, err)
	}
}

// checkNot holds every function against a version that is not valid.
func checkNot(t *testing.T, v api.Version) {
	t.Helper()
	if May(v) {
		t.Errorf("May(%+v) is true", v)
	}
	if s := Print(v); s != "" {
		t.Errorf("Print(%+v): %q", v, s)
	}
	for _, w := range []api.Version{{}, {Major: 1}, {Pre: "0"}, v} {
		if Compare(v, w) != 0 || Compare(w, v) != 0 {
			t.Errorf("Compare(%+v, %+v) is not 0 both ways", v, w)
		}
	}
	for part := -1; part <= 3; part++ {
		if w, ok := Bump(v, part); ok || w != (api.Version{}) {
			t.Errorf("Bump(%+v, %d): %+v, %v", v, part, w, ok)
		}
	}
	if w, ok := Next(v); ok || w != (api.Version{}) {
		t.Errorf("Next(%+v): %+v, %v", v, w, ok)
	}
}

// checkNoString holds Parse against a string that no version has.
func checkNoString(t *testing.T, s string) {
	t.Helper()
	if v, err := Parse(s); err != api.ErrVersion || v != (api.Version{}) {
		t.Errorf("Parse(%q): %+v, %v", s, v, err)
	}
}

// P2.1: versions and their strings.
func TestStrings(t *testing.T) {
	for s, v := range map[string]api.Version{
		"0.0.0":                 {},
		"1.2.3":                 {Major: 1, Minor: 2, Patch: 3},
		"9999.9999.9999":        {Major: 9999, Minor: 9999, Patch: 9999},
		"1.20.300-a.0+b.00":     {Major: 1, Minor: 20, Patch: 300, Pre: "a.0", Build: "b.00"},
		"1.0.0-rc.1":            {Major: 1, Pre: "rc.1"},
		"1.0.0+01":              {Major: 1, Build: "01"},
		"0.1.0--":               {Minor: 1, Pre: "-"},
		"0.1.0+-":               {Minor: 1, Build: "-"},
		"0.1.0--+-":             {Minor: 1, Pre: "-", Build: "-"},
		"0.0.1----.-":           {Patch: 1, Pre: "---.-"},
		"0.0.1+a-b.c":           {Patch: 1, Build: "a-b.c"},
		"0.0.1-a-b+c-d":         {Patch: 1, Pre: "a-b", Build: "c-d"},
		"0.0.1-0":               {Patch: 1, Pre: "0"},
		"0.0.1-9999":            {Patch: 1, Pre: "9999"},
		"0.0.1-0.0.0.0+0.0.0.0": {Patch: 1, Pre: "0.0.0.0", Build: "0.0.0.0"},
		"0.0.1-00a.0-":          {Patch: 1, Pre: "00a.0-"},
		"0.0.1+99999999":        {Patch: 1, Build: "99999999"},
	} {
		checkTwoWays(t, v, s)
	}
	for _, s := range rising {
		checkTwoWays(t, must(t, s), s)
		checkTwoWays(t, must(t, s+"+01.b"), s+"+01.b")
	}
}

// P2.1: strings that no version has.
func TestNoStrings(t *testing.T) {
	for _, s := range []string{
		"", ".", "..", "...", "-", "+", "-+", "0", "1", "1.2", "1.2.", "1..3",
		".2.3", "1.2.3.", ".1.2.3", "1.2.3.4", "1.2.3.a", "01.2.3", "1.02.3",
		"1.2.03", "00.0.0", "0.0.00", "10000.0.0", "0.10000.0", "0.0.10000",
		"4294967296.0.0", "0.0.18446744073709551616", "-1.2.3", "1.-2.3",
		"1.2.-3", "+1.2.3", "1.+2.3", "1.2.3-", "1.2.3+", "1.2.3-+", "1.2.3-+-", "1.2.3-+a",
		"1.2.3-a+", "1.2.3+a+b", "1.2.3+a+", "1.2.3++a", "1.2-a", "1.2+a",
		"1-a", "-a", "+a", "a", "a.b.c", "1.2.x", "1.x.3", "v1.2.3", "1.2.3a",
		"1.2.3 ", " 1.2.3", "1.2.3\n", "1,2,3", "1.2.3~a", "1.2.3_a",
		"1.2.3-00", "1.2.3-01", "1.2.3-a.01", "1.2.3-10000", "1.2.3-a.10000",
		"1.2.3-00000000", "1.2.3-99999999", "1.2.3-abcdefghi",
		"1.2.3+abcdefghi", "1.2.3-a.abcdefghi", "1.2.3-.", "1.2.3-.a",
		"1.2.3-a.", "1.2.3-a..b", "1.2.3+.", "1.2.3+.a", "1.2.3+a.",
		"1.2.3+a..b", "1.2.3-a.b.c.d.e", "1.2.3+a.b.c.d.e", "1.2.3-a.b.c.d.",
		"1.2.3-A", "1.2.3-aB", "1.2.3+A", "1.2.3-a_b", "1.2.3+a_b", "1.2.3-*",
	} {
		checkNoString(t, s)
	}
	for _, x := range strange {
		for _, s := range []string{
			x, x + "1.2.3", "1" + x + ".2.3", "1." + x + ".3", "1.2.3" + x,
			"1.2.3-" + x, "1.2.3-a" + x, "1.2.3-" + x + "a", "1.2.3+" + x,
			"1.2.3+a" + x, "1.2.3+a." + x + ".b",
		} {
			checkNoString(t, s)
		}
	}
}

// P2.1: the bounds of each of the three numbers.
func TestNumbers(t *testing.T) {
	for _, n := range []int{0, 1, 9, 10, 99, 100, 9998, 9999} {
		d := strconv.Itoa(n)
		checkTwoWays(t, api.Version{Major: n}, d+".0.0")
		checkTwoWays(t, api.Version{Minor: n}, "0."+d+".0")
		checkTwoWays(t, api.Version{Patch: n}, "0.0."+d)
	}
	for _, n := range outside {
		for _, tags := range []string{"", "a"} {
			checkNot(t, api.Version{Major: n, Pre: tags})
			checkNot(t, api.Version{Minor: n, Build: tags})
			checkNot(t, api.Version{Patch: n, Pre: tags, Build: tags})
		}
	}
}

// P2.1: the bounds of lists of tags; only in a Pre are numeric tags numbers.
func TestTags(t *testing.T) {
	eight := "abcdefgh"
	good := []string{
		"a", "z", "0", "9999", "-", "--------", "a-", "-a", "0-", "00-", "01a",
		"a.b", "a.b.c", "a.b.c.d", "0.0.0.0", eight,
		eight + "." + eight + "." + eight + "." + eight,
	}
	onlyBuild := []string{
		"00", "01", "09999", "10000", "00000000", "99999999", "a.00", "00.a",
		"0.0.0.01", "12345678.a",
	}
	bad := []string{
		".", "..", "a.", ".a", "a..b", ".a.b", "a.b.", "...", "a...",
		"a.b.c.d.e", "a.b.c.d.", ".a.b.c.d", "0.0.0.0.0", eight + "i",
		"123456789", "---------", "a." + eight + "i", eight + "i.a",
		"a.b.c." + eight + "i", "A", "aZ", "a b", " ", "a_b", "a+b", "+", "/",
		":", "`", "{", "a,b", strings.Repeat("a.", 1<<16) + "a",
		strings.Repeat("0", 1<<16),
	}
	for _, x := range strange {
		bad = append(bad, x, "a"+x, x+"a", "a."+x, x+".a")
	}
	for _, l := range good {
		checkTwoWays(t, api.Version{Major: 1, Pre: l}, "1.0.0-"+l)
	}
	for _, l := range append(good, onlyBuild...) {
		checkTwoWays(t, api.Version{Major: 1, Build: l}, "1.0.0+"+l)
		checkTwoWays(t, api.Version{Major: 1, Pre: "a", Build: l}, "1.0.0-a+"+l)
	}
	for _, l := range bad {
		checkNot(t, api.Version{Major: 1, Build: l})
		checkNot(t, api.Version{Major: 1, Pre: "a", Build: l})
	}
	for _, l := range append(bad, onlyBuild...) {
		checkNot(t, api.Version{Major: 1, Pre: l})
		checkNot(t, api.Version{Major: 1, Pre: l, Build: "a"})
	}
}

// P2.1: which bytes stand in a tag.
func TestTagBytes(t *testing.T) {
	for i := range 256 {
		b := byte(i)
		if b == '.' { // it stands between tags
			continue
		}
		want := strings.IndexByte("abcdefghijklmnopqrstuvwxyz0123456789-", b) >= 0
		for _, tag := range [][]byte{{b}, {'a', b}, {b, 'a'}, {'a', b, 'a'}, {'a', '.', b}} {
			for _, v := range []api.Version{{Pre: string(tag)}, {Build: string(tag)}} {
				if May(v) != want {
					t.Errorf("May(%+v) is not %v", v, want)
				}
			}
		}
	}
}

// P2.1: how long a tag is, alone and behind another one, and how long a list.
func TestTagLengths(t *testing.T) {
	for n := 1; n < 40; n++ {
		for _, x := range []string{"a", "-"} {
			tag := strings.Repeat(x, n)
			for _, v := range []api.Version{{Pre: tag}, {Build: tag}, {Pre: "a." + tag}, {Build: tag + ".a"}} {
				if May(v) != (n <= 8) {
					t.Errorf("May(%+v) is not %v", v, n <= 8)
				}
			}
			l := tag[:1] + strings.Repeat("."+x, n-1)
			for _, v := range []api.Version{{Pre: l}, {Build: l}} {
				if May(v) != (n <= 4) {
					t.Errorf("May(%+v) is not %v", v, n <= 4)
				}
			}
		}
	}
}

// shape matches the strings of versions, but for the length of their tags.
var shape = regexp.MustCompile(strings.NewReplacer(
	"NUM", `(0|[1-9][0-9]{0,3})`,
	"PRE", `(?:0|[1-9][0-9]{0,3}|[0-9]*[a-z-][a-z0-9-]*)`,
	"BUILD", `[a-z0-9-]+`,
).Replace(`\ANUM\.NUM\.NUM(?:-(PRE(?:\.PRE){0,3}))?(?:\+(BUILD(?:\.BUILD){0,3}))?\z`))

// read tells, by another way than Parse, which version has the string s.
func read(s string) (api.Version, bool) {
	m := shape.FindStringSubmatch(s)
	if m == nil {
		return api.Version{}, false
	}
	for _, tag := range strings.Split(m[4]+"."+m[5], ".") {
		if len(tag) > 8 {
			return api.Version{}, false
		}
	}
	var n [3]int
	for i := range n {
		n[i], _ = strconv.Atoi(m[i+1])
	}
	return api.Version{Major: n[0], Minor: n[1], Patch: n[2], Pre: m[4], Build: m[5]}, true
}

// checkAgainstRead holds Parse, May and Print against read.
func checkAgainstRead(t *testing.T, s string) {
	t.Helper()
	if want, is := read(s); is {
		checkTwoWays(t, want, s)
	} else {
		checkNoString(t, s)
	}
}

// each calls f with all strings of up to n bytes of an alphabet.
func each(alphabet string, n int, f func(string)) {
	level := []string{""}
	for range n + 1 {
		var longer []string
		for _, s := range level {
			f(s)
			for i := range len(alphabet) {
				longer = append(longer, s+alphabet[i:i+1])
			}
		}
		level = longer
	}
}

// P2.1: all short strings, alone and behind the three numbers.
func TestShortStrings(t *testing.T) {
	each("01.-a", 6, func(s string) { checkAgainstRead(t, s) })
	each("09.-+a", 6, func(s string) { checkAgainstRead(t, "1.2.3"+s) })
	each("0.-+a", 4, func(s string) { checkAgainstRead(t, "1.2.3-a.b.1"+s) })
	each("0.-+a", 4, func(s string) { checkAgainstRead(t, "1.2.3+a.b.1"+s) })
}

// P2.1: strings of versions with one byte more, less, or another one.
func TestChangedStrings(t *testing.T) {
	for _, s := range []string{
		"0.0.0", "10.9999.100", "1.2.3-a.0+b.00", "1.2.3-9999.abcdefgh",
		"1.2.3-a.b.c.d+1.2.3.4", "1.2.3--+-",
	} {
		for at := range len(s) {
			checkAgainstRead(t, s[:at]+s[at+1:])
			for b := range 256 {
				x := string([]byte{byte(b)})
				checkAgainstRead(t, s[:at]+x+s[at:])
				checkAgainstRead(t, s[:at]+x+s[at+1:])
				checkAgainstRead(t, s+x)
			}
		}
	}
}

// P2.1: the time for a long string grows with its length.
func TestLongStrings(t *testing.T) {
	for _, x := range []string{"0", "1", ".", "-", "+", "a", ".a", "a.", "-+", "\xff", "\ufffd"} {
		long := strings.Repeat(x, api.MaxIndex)
		checkNoString(t, "0.0.0"+long)
		checkNoString(t, "0.0.0-"+long)
		checkNoString(t, "0.0.0+"+long)
		checkNoString(t, long+".0.0")
		checkNot(t, api.Version{Pre: long})
		checkNot(t, api.Version{Build: long})
	}
}

// P2.2: each pair of a list of versions, also with a Build, which is ignored.
func TestCompare(t *testing.T) {
	for i, a := range rising {
		for k, b := range rising {
			want := 0
			if i < k {
				want = -1
			} else if i > k {
				want = 1
			}
			x, y := must(t, a), must(t, b)
			for _, builds := range [][2]string{{"", ""}, {"z", ""}, {"", "z"}, {"a", "b"}, {"b", "a"}, {"9", "10"}} {
				x.Build, y.Build = builds[0], builds[1]
				if got := Compare(x, y); got != want {
					t.Errorf("Compare(%+v, %+v): %d", x, y, got)
				}
			}
		}
	}
}

// sortText is a string of a valid version, such that the bytewise order of these
// strings is that of the versions.
func sortText(v api.Version) string {
	s := ""
	for _, n := range []int{v.Major, v.Minor, v.Patch} {
		s += strconv.Itoa(n + 10000)
	}
	if v.Pre == "" {
		return s + "\xff"
	}
	for tag := range strings.SplitSeq(v.Pre, ".") {
		if strings.Trim(tag, "0123456789") == "" {
			n, _ := strconv.Atoi(tag)
			s += "\x01" + strconv.Itoa(n+10000) + "\x00"
		} else {
			s += "\x02" + tag + "\x00"
		}
	}
	return s
}

// some are versions of all kinds, in no order, without Build.
func some(t *testing.T) []api.Version {
	var l []api.Version
	each("019.-a", 4, func(s string) {
		if v, is := read("1.2.3-" + s); is {
			l = append(l, v)
		}
	})
	for _, s := range rising {
		l = append(l, must(t, s))
	}
	return l
}

// P2.2: the order of many versions, each pair of them.
func TestCompareMany(t *testing.T) {
	l := some(t)
	var texts []string
	for _, v := range l {
		texts = append(texts, sortText(v))
	}
	for i, a := range l {
		for k, b := range l {
			if got, want := Compare(a, b), strings.Compare(texts[i], texts[k]); got != want {
				t.Fatalf("Compare(%+v, %+v): %d", a, b, got)
			}
		}
	}
}

// P2.2: Compare returns 0 if a or b is not valid, also if they differ.
func TestCompareNotValid(t *testing.T) {
	bad := []api.Version{
		{Major: -1}, {Minor: 10000}, {Patch: math.MaxInt64}, {Pre: "."},
		{Pre: "01"}, {Build: "a..b"}, {Major: 2, Build: "\xff"}, {Pre: "A"},
	}
	for _, v := range bad {
		for _, w := range append(bad, api.Version{}, api.Version{Major: 9999}) {
			if Compare(v, w) != 0 || Compare(w, v) != 0 {
				t.Errorf("Compare(%+v, %+v) is not 0 both ways", v, w)
			}
		}
	}
}

// P2.2: Core takes the Build away, and nothing else, also from versions that
// are not valid.
func TestCore(t *testing.T) {
	for _, v := range []api.Version{
		{}, {Major: 1, Minor: 2, Patch: 3}, {Pre: "a.0"}, {Major: 9999},
		{Major: -5, Minor: math.MinInt64, Patch: math.MaxInt64},
		{Pre: "?"}, {Pre: "..\xff"}, {Minor: 10000, Pre: "01"},
	} {
		for _, build := range []string{"", "b", "b.1", "..", "\xff", "+"} {
			w := v
			w.Build = build
			if c := Core(w); c != v {
				t.Errorf("Core(%+v): %+v", w, c)
			}
		}
	}
}

// P2.3: Bump raises a number, and those behind it become 0.
func TestBump(t *testing.T) {
	for _, x := range []struct {
		s    string
		want [3]string
	}{
		{"0.0.0", [3]string{"1.0.0", "0.1.0", "0.0.1"}},
		{"1.2.3", [3]string{"2.0.0", "1.3.0", "1.2.4"}},
		{"1.2.3-a", [3]string{"2.0.0", "1.3.0", "1.2.4"}},
		{"1.2.3+b", [3]string{"2.0.0", "1.3.0", "1.2.4"}},
		{"1.2.3-a+b", [3]string{"2.0.0", "1.3.0", "1.2.4"}},
		{"2.0.0-0", [3]string{"3.0.0", "2.1.0", "2.0.1"}},
		{"9.99.999", [3]string{"10.0.0", "9.100.0", "9.99.1000"}},
		{"9998.9998.9998", [3]string{"9999.0.0", "9998.9999.0", "9998.9998.9999"}},
		{"9999.0.0", [3]string{"", "9999.1.0", "9999.0.1"}},
		{"0.9999.0", [3]string{"1.0.0", "", "0.9999.1"}},
		{"0.0.9999", [3]string{"1.0.0", "0.1.0", ""}},
		{"9999.9998.9999", [3]string{"", "9999.9999.0", ""}},
		{"9999.9999.9999", [3]string{}},
		{"9999.9999.9999-0", [3]string{}},
	} {
		v := must(t, x.s)
		for part, want := range x.want {
			w, ok := Bump(v, part)
			if ok != (want != "") || ok && Print(w) != want || !ok && w != (api.Version{}) {
				t.Errorf("Bump(%+v, %d): %+v, %v", v, part, w, ok)
			}
		}
		for _, part := range []int{-1, 3, 4, -3, math.MinInt64, math.MaxInt64, 1 << 32} {
			if w, ok := Bump(v, part); ok || w != (api.Version{}) {
				t.Errorf("Bump(%+v, %d): %+v, %v", v, part, w, ok)
			}
		}
	}
}

// P2.3: Next of some versions.
func TestNext(t *testing.T) {
	for s, want := range map[string]string{
		"0.0.0-0": "0.0.0", "0.0.0-z+b": "0.0.0", "0.0.0": "0.0.1",
		"0.0.0+b": "0.0.1", "1.2.3": "1.2.4", "1.2.3-rc.1": "1.2.3",
		"1.2.9999-a": "1.2.9999", "1.2.9998": "1.2.9999",
		"1.2.9999": "1.3.0", "1.2.9999+b": "1.3.0", "1.9999.9998": "1.9999.9999",
		"1.9999.9999": "2.0.0", "9999.3.9999": "9999.4.0",
		"9998.9999.9999": "9999.0.0", "9999.9999.9998": "9999.9999.9999",
		"9999.9999.9999-a": "9999.9999.9999", "9999.9999.9999": "",
		"9999.9999.9999+b": "",
	} {
		v := must(t, s)
		w, ok := Next(v)
		if ok != (want != "") || ok && Print(w) != want || !ok && w != (api.Version{}) {
			t.Errorf("Next(%+v): %+v, %v", v, w, ok)
		}
	}
}

// P2.3: of all releases with some numbers, Next finds the least one above.
func TestNextIsLeast(t *testing.T) {
	var releases []api.Version
	some := []int{0, 1, 2, 9998, 9999}
	for _, major := range some {
		for _, minor := range some {
			for _, patch := range some {
				releases = append(releases, api.Version{Major: major, Minor: minor, Patch: patch})
			}
		}
	}
	for _, v := range releases {
		for _, pre := range []string{"", "0", "a.1"} {
			v.Pre = pre
			next, ok := Next(v)
			if ok && (Compare(v, next) != -1 || next.Pre != "") {
				t.Errorf("Next(%+v): %+v", v, next)
			}
			for _, w := range releases {
				if Compare(v, w) < 0 && (!ok || Compare(w, next) < 0) {
					t.Errorf("Next(%+v): %+v, %v, but there is %+v", v, next, ok, w)
				}
			}
		}
	}
}

// P2.4: Compare is a total order: two versions compare equal only if they are
// the same, and in a list that it sorts each version is less than all that
// stand behind it.
func TestTotalOrder(t *testing.T) {
	l := some(t)
	slices.SortFunc(l, Compare)
	l = slices.Compact(l) // some are in it twice
	for i, a := range l {
		if Compare(a, a) != 0 {
			t.Fatalf("Compare(%+v, itself): %d", a, Compare(a, a))
		}
		for _, b := range l[i+1:] {
			if Compare(a, b) != -1 || Compare(b, a) != 1 {
				t.Fatalf("%+v and %+v: %d, %d", a, b, Compare(a, b), Compare(b, a))
			}
		}
	}
}

// P2.4: of the versions with the same numbers, the one whose Pre is 0 is the
// least one.
func TestLeast(t *testing.T) {
	for _, v := range some(t) {
		least := v
		least.Pre = "0"
		want := -1
		if v == least {
			want = 0
		}
		if Compare(least, v) != want {
			t.Errorf("Compare(%+v, %+v): %d", least, v, Compare(least, v))
		}
	}
}

// within reports whether a part of s is in the memory of whole.
func within(s, whole string) bool {
	if s == "" || whole == "" {
		return false
	}
	at := uintptr(unsafe.Pointer(unsafe.StringData(s)))
	from := uintptr(unsafe.Pointer(unsafe.StringData(whole)))
	return from <= at && at < from+uintptr(len(whole))
}

// R4 for P2.1, P2.2: results share no memory with arguments.
func TestMemory(t *testing.T) {
	s := strings.Clone("1.2.3-rc.1+build.2")
	v := must(t, s)
	if within(v.Pre, s) || within(v.Build, s) {
		t.Errorf("Parse(%q) returns a part of it", s)
	}
	if c := Core(v); within(c.Pre, v.Pre) {
		t.Errorf("Core(%+v) returns a part of it", v)
	}
}

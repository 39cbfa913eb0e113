package ident

import (
	"bytes"
	"math"
	"slices"
	"strconv"
	"strings"
	"testing"

	"linchpin/api"
)

const (
	lower  = "abcdefghijklmnopqrstuvwxyz"
	digits = "0123456789"
)

// is tells which bytes of a class there are, for tests that try all 256.
func is(class string, b byte) bool {
	return strings.IndexByte(class, b) >= 0
}

// strange are strings that no function accepts: bytes outside of UTF-8, runes
// that look like letters, digits or hyphens, and control bytes.
var strange = []string{
	"\x00", "\n", " ", "\x7f", "\x80", "\xff", "\xc3", "\xed\xa0\x80",
	"ä", "а", "١", "１", "ａ", "‐", "−", "\ufffd", "\ufeff", "😀",
}

// checkAll holds the function f, named name, against the strings that it
// accepts and those that it does not, among them the strange ones.
func checkAll(t *testing.T, name string, f func(string) bool, good, bad []string) {
	t.Helper()
	for _, s := range good {
		if !f(s) {
			t.Errorf("%s(%q) is false", name, s)
		}
	}
	for _, x := range strange {
		bad = append(bad, x, x+"a", "a"+x, "a"+x+"b")
	}
	for _, s := range bad {
		if f(s) {
			t.Errorf("%s(%q) is true", name, s)
		}
	}
}

// P1.1: which strings are names.
func TestName(t *testing.T) {
	good := []string{
		"a", "z", "a0", "z9", "ab", "a-b", "a-0", "a-b-c", "a0-9z",
		"a-b-c-d-e-f-g-h1", strings.Repeat("a", api.MaxName),
	}
	bad := []string{
		"", "-", "--", "-a", "a-", "a--b", "a---b", "a-b--c", "ab--",
		"0", "9", "0a", "0-a", "A", "aA", "Z", "a_b", "_", "a.b", "a b",
		" a", "a ", "a\n", "a\x00", "a/b", "a:b", "a`", "a{", "a@", "a[",
		"a-b-c-d-e-f-g-h-",
		strings.Repeat("a", api.MaxName+1), strings.Repeat("a-", 1<<16),
	}
	checkAll(t, "Name", Name, good, bad)
}

// P1.1: which bytes stand where in a name.
func TestNameBytes(t *testing.T) {
	for i := range 256 {
		b := byte(i)
		for s, want := range map[string]bool{
			string([]byte{b}):           is(lower, b),
			string([]byte{b, 'a'}):      is(lower, b),
			string([]byte{'a', b}):      is(lower+digits, b),
			string([]byte{'a', b, 'a'}): is(lower+digits+"-", b),
			string([]byte{'a', b, '0'}): is(lower+digits+"-", b),
			string([]byte{'a', '-', b}): is(lower+digits, b),
		} {
			if Name(s) != want {
				t.Errorf("Name(%q) is not %v", s, want)
			}
		}
	}
}

// P1.1: the length of a name is counted in bytes.
func TestNameLength(t *testing.T) {
	for n := range 40 {
		want := 1 <= n && n <= 16
		if s := strings.Repeat("x", n); Name(s) != want {
			t.Errorf("Name(%q) is not %v", s, want)
		}
	}
}

// P1.1: which strings are words.
func TestWord(t *testing.T) {
	good := []string{
		"a", "z", "0", "9", "_", "__", "a_b", "_a", "a_", "0a", "00", "x86_64",
		"a__b", strings.Repeat("_", api.MaxWord),
	}
	bad := []string{
		"", "-", "a-b", "A", "aB", "a.b", "a b", " ", " a", "a ", "a\n",
		"a/", "a:", "a`", "a{", "a^", "a@",
		strings.Repeat("a", api.MaxWord+1), strings.Repeat("_", 1<<16),
	}
	checkAll(t, "Word", Word, good, bad)
}

// P1.1: which bytes stand in a word, and how many.
func TestWordBytes(t *testing.T) {
	for i := range 256 {
		b := byte(i)
		want := is(lower+digits+"_", b)
		for _, s := range []string{
			string([]byte{b}),
			string([]byte{b, 'a'}),
			string([]byte{'a', b}),
			string([]byte{'a', b, 'a'}),
		} {
			if Word(s) != want {
				t.Errorf("Word(%q) is not %v", s, want)
			}
		}
	}
	for n := range 40 {
		want := 1 <= n && n <= 12
		if s := strings.Repeat("x", n); Word(s) != want {
			t.Errorf("Word(%q) is not %v", s, want)
		}
	}
}

// P1.2: strings that denote a number.
func TestNumber(t *testing.T) {
	for s, want := range map[string]int{
		"0": 0, "1": 1, "9": 9, "10": 10, "19": 19, "90": 90, "99": 99,
		"100": 100, "101": 101, "1000": 1000, "1234": 1234, "9998": 9998,
		"9999": api.MaxNum,
	} {
		if n, ok := Number(s); n != want || !ok {
			t.Errorf("Number(%q): %d, %v", s, n, ok)
		}
	}
}

// P1.2: strings that denote none, for which the number is 0.
func TestNumberNot(t *testing.T) {
	bad := []string{
		"", "00", "01", "007", "0000", "09999", "00001", "10000", "10001",
		"19999", "99999", "65536", "4294967296", "4294967297",
		"18446744073709551616", "18446744073709551617",
		strings.Repeat("9", 1000), strings.Repeat("0", 1000),
		"1" + strings.Repeat("0", 64),
		"-1", "-0", "+1", "+0", "-", "+", "1-", "1e3", "1_000", "1,0", "1.0",
		"0x1", "0b1", "0o7", "a", "1a", "a1", "1a1", " 1", "1 ", "1\n", "\n1",
		"1\x00", "\x001", "1/", "1:", "/", ":", "12345a", "99x",
	}
	for _, x := range strange {
		bad = append(bad, x, x+"1", "1"+x, "1"+x+"1")
	}
	for _, s := range bad {
		if n, ok := Number(s); n != 0 || ok {
			t.Errorf("Number(%q): %d, %v", s, n, ok)
		}
	}
}

// P1.2: Number accepts, of all strings of up to five bytes of a small
// alphabet, those that denote a number.
func TestNumberShort(t *testing.T) {
	want := map[string]int{}
	for n := range api.MaxNum + 1 {
		want[strconv.Itoa(n)] = n
	}
	level := []string{""}
	for range 5 {
		var longer []string
		for _, s := range level {
			for _, b := range []byte("0189-a") {
				longer = append(longer, s+string([]byte{b}))
			}
		}
		for _, s := range longer {
			k, is := want[s]
			if n, ok := Number(s); n != k || ok != is {
				t.Fatalf("Number(%q): %d, %v", s, n, ok)
			}
		}
		level = longer
	}
}

// P1.2: Digits takes every number, not only those that Number returns.
func TestDigits(t *testing.T) {
	for n, want := range map[int]string{
		0: "0", 1: "1", 9: "9", 10: "10", 99: "99", 100: "100", 101: "101",
		9999: "9999", 10000: "10000", 1234567: "1234567",
		-1: "-1", -9: "-9", -10: "-10", -9999: "-9999",
		math.MaxInt32: "2147483647", math.MinInt32: "-2147483648",
		math.MaxInt64: "9223372036854775807",
		math.MinInt64: "-9223372036854775808",
	} {
		if s := Digits(n); s != want {
			t.Errorf("Digits(%d): %q", n, s)
		}
	}
}

// P1.3: the pieces of a string.
func TestSplit(t *testing.T) {
	for _, x := range []struct {
		s    string
		by   byte
		want []string
	}{
		{"", '.', []string{""}},
		{"", 0, []string{""}},
		{"a", '.', []string{"a"}},
		{".", '.', []string{"", ""}},
		{"..", '.', []string{"", "", ""}},
		{".a", '.', []string{"", "a"}},
		{"a.", '.', []string{"a", ""}},
		{"a.b", '.', []string{"a", "b"}},
		{"a..b", '.', []string{"a", "", "b"}},
		{"1.22.333", '.', []string{"1", "22", "333"}},
		{"a.b", ',', []string{"a.b"}},
		{"a b\nc\n", '\n', []string{"a b", "c", ""}},
		{"a\x00b", 0, []string{"a", "b"}},
		{"aaa", 'a', []string{"", "", "", ""}},
		{"ä.ö", '.', []string{"ä", "ö"}},
		{"😀,\ufffd,x", ',', []string{"😀", "\ufffd", "x"}},
	} {
		if l := Split(x.s, x.by); !slices.Equal(l, x.want) {
			t.Errorf("Split(%q, %q): %q", x.s, x.by, l)
		}
	}
}

// P1.3: a byte is cut at also where it is a part of a rune, or of none.
func TestSplitWithinRunes(t *testing.T) {
	for _, x := range []struct {
		s    string
		by   byte
		want []string
	}{
		{"\xff\xfe\xff", 0xff, []string{"", "\xfe", ""}},
		{"\xff\xfe\xff", 0xfe, []string{"\xff", "\xff"}},
		{"xä", 0xc3, []string{"x", "\xa4"}},
		{"äx", 0xa4, []string{"\xc3", "x"}},
		{"ä", 0xe4, []string{"ä"}},
		{"\xe4", 0xe4, []string{"", ""}},
		{"\ufffd", 0xef, []string{"", "\xbf\xbd"}},
		{"\ufffd", 0xbf, []string{"\xef", "\xbd"}},
		{"\ufffd.", 0xbd, []string{"\xef\xbf", "."}},
		{"\xef\xbf", 0xbf, []string{"\xef", ""}},
		{"\xef.\xbd", 0xbd, []string{"\xef.", ""}},
		{"€€", 0x82, []string{"\xe2", "\xac\xe2", "\xac"}},
		{"😀", 0x9f, []string{"\xf0", "\x98\x80"}},
		{"😀", 0x80, []string{"\xf0\x9f\x98", ""}},
		{"\xed\xa0\x80", 0xa0, []string{"\xed", "\x80"}},
		{"\xc3", 0xc3, []string{"", ""}},
		{"\x80\x80", 0x80, []string{"", "", ""}},
	} {
		if l := Split(x.s, x.by); !slices.Equal(l, x.want) {
			t.Errorf("Split(%q, %q): %q", x.s, x.by, l)
		}
	}
}

// P1.3: strings with a byte between them.
func TestJoin(t *testing.T) {
	for _, x := range []struct {
		l    []string
		by   byte
		want string
	}{
		{nil, '.', ""},
		{[]string{}, '.', ""},
		{[]string{""}, '.', ""},
		{[]string{"a"}, '.', "a"},
		{[]string{"", ""}, '.', "."},
		{[]string{"a", "b"}, '.', "a.b"},
		{[]string{"", "a", "", "b", ""}, ' ', " a  b "},
		{[]string{"a.b", "c"}, '.', "a.b.c"},
		{[]string{"a", "b", "c"}, 0, "a\x00b\x00c"},
		{[]string{"a", "b"}, 0xff, "a\xffb"},
		{[]string{"\xc3", ""}, 0xa4, "ä"},
		{[]string{"ä", "\xff"}, '\n', "ä\n\xff"},
	} {
		if s := Join(x.l, x.by); s != x.want {
			t.Errorf("Join(%q, %q): %q", x.l, x.by, s)
		}
	}
}

// P1.3, R4: Join leaves its list as it is, also behind its end, and the lists
// that Split returns are not one another's.
func TestListsAreApart(t *testing.T) {
	whole := []string{"a", "b", "c"}
	if s := Join(whole[:2], '.'); s != "a.b" || !slices.Equal(whole, []string{"a", "b", "c"}) {
		t.Errorf("Join: %q, and the list is %q", s, whole)
	}
	first := Split("a.b", '.')
	first[0] = "x"
	_ = append(first[:1], "y")
	if l := Split("a.b", '.'); !slices.Equal(l, []string{"a", "b"}) {
		t.Errorf("Split behind a change: %q", l)
	}
}

// checkParts holds Split(s, by) and Join of it against P1.3 and P1.4.
func checkParts(t *testing.T, s string, by byte) {
	t.Helper()
	l := Split(s, by)
	if len(l) != strings.Count(s, string([]byte{by}))+1 {
		t.Errorf("Split(%q, %q): %q", s, by, l)
	}
	for _, x := range l {
		if strings.IndexByte(x, by) >= 0 {
			t.Errorf("Split(%q, %q): %q", s, by, l)
		}
	}
	if j := Join(l, by); j != s {
		t.Errorf("Join(Split(%q, %q)): %q", s, by, j)
	}
}

// P1.3, P1.4: all bytes, each cut at each.
func TestSplitJoinBytes(t *testing.T) {
	all := make([]byte, 256)
	for i := range all {
		all[i] = byte(i)
	}
	texts := append(slices.Clone(strange), "", string(all), string(bytes.Repeat(all, 3)))
	for _, s := range texts {
		for _, by := range all {
			checkParts(t, s, by)
		}
	}
}

// P1.3, P1.4: all strings of up to six bytes that are runes, halves of runes
// and cuts.
func TestSplitJoinShort(t *testing.T) {
	alphabet := []byte{'a', '.', 0xc3, 0xa4, 0xef}
	level := []string{""}
	for range 6 {
		var longer []string
		for _, s := range level {
			for _, b := range alphabet {
				longer = append(longer, s+string([]byte{b}))
			}
		}
		for _, s := range longer {
			for _, by := range alphabet {
				checkParts(t, s, by)
			}
		}
		level = longer
	}
}

// P1.3: the time for a long string and many pieces grows with its length.
func TestSplitJoinLong(t *testing.T) {
	checkParts(t, strings.Repeat("ab.", api.MaxIndex/3), '.')
	checkParts(t, strings.Repeat(".", api.MaxIndex), '.')
	checkParts(t, strings.Repeat("\ufffd\xff", api.MaxIndex/4), 0xbf)
}

// P1.4: Number reads what Digits writes.
func TestNumberOfDigits(t *testing.T) {
	for n := range api.MaxNum + 1 {
		if k, ok := Number(Digits(n)); k != n || !ok {
			t.Fatalf("Number(Digits(%d)): %d, %v", n, k, ok)
		}
	}
	for _, n := range []int{-1, api.MaxNum + 1, math.MinInt64, math.MaxInt64} {
		if k, ok := Number(Digits(n)); k != 0 || ok {
			t.Errorf("Number(Digits(%d)): %d, %v", n, k, ok)
		}
	}
}

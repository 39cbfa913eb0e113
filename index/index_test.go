package index

import (
	"fmt"
	"math/rand"
	"reflect"
	"regexp"
	"slices"
	"strconv"
	"strings"
	"testing"
	"time"
	"unsafe"

	"linchpin/api"
	"linchpin/digest"
	"linchpin/record"
	"linchpin/shelf"
	"linchpin/version"
)

var (
	firstForm = regexp.MustCompile(`^shelf ([a-z][a-z0-9]*(?:-[a-z0-9]+)*)\n`)
	entryForm = regexp.MustCompile(`^entry ([0-9a-f]{16}) (on|off)\n`)
	wordEntry = regexp.MustCompile(`(?m)^entry(?: |$)`)
)

// sumText is the checksum of a record's string, as a shelf's string says it.
func sumText(text string) string {
	return fmt.Sprintf("%016x", digest.Sum([]byte(text)))
}

// keyOf is the same for the same Name and the same version.
func keyOf(r api.Record) string {
	s, _, _ := strings.Cut(r.Name+" "+version.Print(r.V), "+")
	return s
}

// parseOf is a second Parse.
func parseOf(s string) (api.Shelf, api.Errno, int) {
	var none api.Shelf
	if len(s) > 524288 {
		return none, api.ErrLong, 0
	}
	m := firstForm.FindStringSubmatch(s)
	if m == nil || len(m[1]) > 16 {
		return none, api.ErrForm, 1
	}
	x, rest := api.Shelf{Name: m[1]}, s[len(m[0]):]
	starts := wordEntry.FindAllStringIndex(rest, -1)
	if rest != "" && (len(starts) == 0 || starts[0][0] > 0) {
		return none, api.ErrForm, 2
	}
	keys := map[string]bool{}
	for i, start := range starts {
		at := 2 + strings.Count(rest[:start[0]], "\n")
		own := rest[start[0]:]
		if i+1 < len(starts) {
			own = rest[start[0]:starts[i+1][0]]
		}
		m := entryForm.FindStringSubmatch(own)
		if m == nil {
			return none, api.ErrForm, at
		}
		text := own[len(m[0]):]
		r, err, _ := record.Parse(text)
		switch {
		case err != api.OK:
			return none, err, at
		case sumText(text) != m[1]:
			return none, api.ErrSum, at
		case keys[keyOf(r)]:
			return none, api.ErrTwice, at
		case len(keys) >= 64:
			return none, api.ErrFull, at
		}
		keys[keyOf(r)] = true
		sum, _ := strconv.ParseUint(m[1], 16, 64)
		x.Entries = append(x.Entries, api.Entry{Rec: r, Sum: sum, Yanked: m[2] == "off"})
	}
	return x, api.OK, 0
}

// printOf is a second Print of a valid shelf.
func printOf(s api.Shelf) string {
	text := "shelf " + s.Name + "\n"
	for _, e := range s.Entries {
		r, _ := record.Print(e.Rec)
		state := "on"
		if e.Yanked {
			state = "off"
		}
		text += fmt.Sprintf("entry %016x %s\n%s", e.Sum, state, r)
	}
	return text
}

// same compares all fields of two shelves, with nil as an empty list.
func same(a, b api.Shelf) bool {
	return a.Name == b.Name && slices.EqualFunc(a.Entries, b.Entries, func(x, y api.Entry) bool {
		return x.Sum == y.Sum && x.Yanked == y.Yanked && record.Same(x.Rec, y.Rec)
	})
}

// checkRefused holds Parse against a string that it refuses.
func checkRefused(t *testing.T, s string, want api.Errno, at int) {
	t.Helper()
	if x, err, i := Parse(s); err != want || i != at || x.Name != "" || x.Entries != nil {
		t.Errorf("Parse(%.400q): %.400q, %v, %d; want %v, %d", s, fmt.Sprint(x), err, i, want, at)
	}
}

// checkRead holds Parse of the string of a shelf, and Print, against that shelf.
func checkRead(t *testing.T, s string, want api.Shelf) {
	t.Helper()
	x, err, at := Parse(s)
	if err != api.OK || at != 0 || !same(x, want) || !shelf.May(x) {
		t.Errorf("Parse(%.400q): %.400q, %v, %d; want %.400q", s, fmt.Sprint(x), err, at, fmt.Sprint(want))
	}
	for _, x := range []api.Shelf{x, want} {
		if text, err := Print(x); err != api.OK || text != s {
			t.Errorf("Print(%.400q): %.400q, %v; want %.400q", fmt.Sprint(x), text, err, s)
		}
	}
}

// checkParse holds Parse and Print against second ones, and reports whether s is the
// string of a shelf.
func checkParse(t *testing.T, s string) bool {
	t.Helper()
	want, err, at := parseOf(s)
	if err != api.OK {
		checkRefused(t, s, err, at)
	} else {
		checkRead(t, s, want)
	}
	return err == api.OK
}

// checkBad holds Print against a shelf that is not valid.
func checkBad(t *testing.T, s api.Shelf) {
	t.Helper()
	if text, err := Print(s); err != api.ErrArg || text != "" || shelf.May(s) {
		t.Errorf("Print(%.400q): %.400q, %v", fmt.Sprint(s), text, err)
	}
}

// The strings of some records.
const (
	plain = "package a 1.0.0\n"
	rich  = "package b 0.9.0-rc.1+x\nneed\nany a f full ^1\nwhen os = linux\noption o\nbar c <2\nfeature g ?o a/f\n"
	newer = "package a 2.0.0+b.7\nneed\nany b - bare >=1, <2 || =3.1\nany entry - full *\n"
	odd   = "package entry 9999.9999.9999-on\nbar shelf *\nwhen os != off\nfeature entry\nfeature on entry\n"
)

// head is the first line of most strings here.
const head = "shelf main\n"

// baseText is the string of a shelf that has some of all. Another program computed the
// checksums.
const baseText = head +
	"entry 4bd48d9aaaf60f3e on\n" + rich +
	"entry 5040fe4cfebdd97a off\n" + plain +
	"entry 00c9c4783595bea2 off\n" + newer +
	"entry 753db30179be16d0 on\n" + odd

// base is the shelf of baseText.
func base() api.Shelf {
	return api.Shelf{Name: "main", Entries: []api.Entry{
		entryOf(rich, false), entryOf(plain, true), entryOf(newer, true), entryOf(odd, false),
	}}
}

// entryOf is the entry of a record's string.
func entryOf(text string, yanked bool) api.Entry {
	r, err, at := record.Parse(text)
	if err != api.OK {
		panic(fmt.Sprintf("%q: %v, %d", text, err, at))
	}
	return api.Entry{Rec: r, Sum: digest.Sum([]byte(text)), Yanked: yanked}
}

// part is what the string of a shelf says of an entry, also of one that is wrong.
func part(text, state string) string {
	return "entry " + sumText(text) + " " + state + "\n" + text
}

// full is the string of a shelf with n entries, of the packages p, q and r.
func full(n int) string {
	var b strings.Builder
	b.WriteString(head)
	for i := range n {
		b.WriteString(part(fmt.Sprintf("package %c 0.%d.%d\n", 'p'+i%3, i/16, i%16), []string{"on", "on", "off", "on"}[i%4]))
	}
	return b.String()
}

// next is the number of the line behind those of s.
func next(s string) int {
	return strings.Count(s, "\n") + 1
}

// main is the shelf main with these entries.
func main(entries ...api.Entry) api.Shelf {
	return api.Shelf{Name: "main", Entries: entries}
}

// P14.1, P14.2: the strings of some shelves.
func TestTable(t *testing.T) {
	for _, c := range []struct {
		s    string
		want api.Shelf
	}{
		{baseText, base()},
		{head, main()},
		{"shelf x\n", api.Shelf{Name: "x"}},
		{"shelf shelf\n", api.Shelf{Name: "shelf"}},
		{"shelf entry\n", api.Shelf{Name: "entry"}},
		{"shelf a-1\n", api.Shelf{Name: "a-1"}},
		{"shelf abcdefghijklmnop\n", api.Shelf{Name: "abcdefghijklmnop"}},
		{"shelf b\nentry 11712e97c3ac0549 off\npackage shelf 0.0.0\n", api.Shelf{Name: "b", Entries: []api.Entry{entryOf("package shelf 0.0.0\n", true)}}},
		{head + "entry 5040fe4cfebdd97a on\n" + plain, main(entryOf(plain, false))},
		{head + "entry 5040fe4cfebdd97a off\n" + plain, main(entryOf(plain, true))},
		{head + part(plain, "on") + part("package a 1.0.0-0\n", "on"), main(entryOf(plain, false), entryOf("package a 1.0.0-0\n", false))},
		{head + part("package c 1.0.0\n", "off") + part(plain, "off"), main(entryOf("package c 1.0.0\n", true), entryOf(plain, true))},
		{head + part("package a 1.0.0+b\n", "off") + part("package a 0.9.0\n", "on"), main(entryOf("package a 1.0.0+b\n", true), entryOf("package a 0.9.0\n", false))},
	} {
		checkRead(t, c.s, c.want)
		if other, err, at := parseOf(c.s); err != api.OK || at != 0 || !same(other, c.want) || printOf(c.want) != c.s {
			t.Errorf("the second Parse or Print of %q: %v, %v, %d", c.s, other, err, at)
		}
	}
}

// P14.1: Print of shelves that are not valid.
func TestNotValid(t *testing.T) {
	for _, name := range []string{"", "A", "1", "-", "a-", "-a", "a--b", "a b", "a\n", " a", "a_b", "\xff", "\u00e9", "abcdefghijklmnopq"} {
		x := base()
		x.Name = name
		checkBad(t, x)
		checkBad(t, api.Shelf{Name: name})
	}
	for at := range base().Entries {
		for _, change := range []func(e *api.Entry){
			func(e *api.Entry) { e.Sum++ },
			func(e *api.Entry) { e.Sum = 0 },
			func(e *api.Entry) { e.Rec.Name = "A" },
			func(e *api.Entry) { e.Rec.V.Build = "other" },
			func(e *api.Entry) { e.Rec.V.Major = -1 },
			func(e *api.Entry) { e.Rec.Needs = append(e.Rec.Needs, api.Need{}) },
			func(e *api.Entry) { e.Rec.Bars = append(e.Rec.Bars, api.Bar{Name: "z", Range: "*"}) },
			func(e *api.Entry) { *e = base().Entries[(at+1)%4] },
			func(e *api.Entry) { *e = api.Entry{} },
		} {
			x := base()
			change(&x.Entries[at])
			checkBad(t, x)
		}
	}
	whole, _, _ := parseOf(full(64))
	for _, n := range []int{65, 66, 200} {
		x := whole
		for len(x.Entries) < n {
			x.Entries = append(x.Entries, entryOf(fmt.Sprintf("package more 1.0.%d\n", len(x.Entries)), false))
		}
		checkBad(t, x)
	}
}

// P14.1: first lines without their form, whatever follows them.
func TestFirstLine(t *testing.T) {
	for _, line := range []string{
		"", " ", "x", "shelf", "shelf ", " shelf", " shelf main", "shelf  main", "shelf main ", "shelf main x", "shelf\tmain",
		"shelf Main", "shelf 1", "shelf -", "shelf a-", "shelf -a", "shelf a--b", "shelf a_b", "shelf a.b", "shelf main\r", "shelf main\x00",
		"shelf \xff", "shelf \u00e9", "shelf abcdefghijklmnopq", "Shelf main", "shelfs main", "shel main", "main shelf", "main",
		"package a 1.0.0", "entry", "entry 5040fe4cfebdd97a on", "shelf main 5040fe4cfebdd97a on", "entry main", "\xff", "\x00",
	} {
		for _, rest := range []string{"", baseText[len(head):], baseText, "\n", "x", "entry\n", "entry x\n" + plain, part(rich, "no")} {
			checkRefused(t, line+"\n"+rest, api.ErrForm, 1)
			checkParse(t, line+"\n"+rest)
		}
		if line != "" {
			checkRefused(t, line, api.ErrForm, 1)
		}
	}
	checkRefused(t, "", api.ErrForm, 1)
	checkRefused(t, "shelf main", api.ErrForm, 1)
	checkRefused(t, "shelf entry", api.ErrForm, 1)
	for b := range 256 {
		name := string([]byte{byte(b)})
		if good := 'a' <= b && b <= 'z'; checkParse(t, "shelf "+name+"\n") != good {
			t.Errorf("a shelf of the Name %q: want %t", name, good)
		}
	}
}

// sum is that of plain.
const sum = "5040fe4cfebdd97a"

// wrongEntries are lines that are no lines of entries, but whose first word is `entry`.
var wrongEntries = []string{
	"entry", "entry ", "entry  ", "entry x", "entry on", "entry off", "entry " + sum, "entry " + sum + " ", "entry " + sum + "  ",
	"entry  " + sum + " on", "entry " + sum + "  on", "entry " + sum + " on ", "entry " + sum + " off ", "entry " + sum + " on x",
	"entry " + sum + " on off", "entry " + sum + " on " + sum, "entry " + sum + " " + sum, "entry on " + sum, "entry " + sum + " no",
	"entry " + sum + " On", "entry " + sum + " ON", "entry " + sum + " OFF", "entry " + sum + " of", "entry " + sum + " o",
	"entry " + sum + " offf", "entry " + sum + " onn", "entry " + sum + " on\r", "entry " + sum + " on\t", "entry " + sum + "\ton",
	"entry " + sum + " true", "entry " + sum + " 0", "entry " + sum + " yanked", "entry " + sum + ",on", "entry  on", "entry  off",
	"entry 5040FE4CFEBDD97A on", "entry 5040fE4cfebdd97a on", "entry 5040fe4cfebdd97g on", "entry 5040fe4cfebdd97 on",
	"entry 05040fe4cfebdd97a on", "entry 5040fe4cfebdd97a0 on", "entry 0x5040fe4cfebdd9 on", "entry +040fe4cfebdd97a on",
	"entry -040fe4cfebdd97a on", "entry 0 on", "entry \xff on", "entry a 1.0.0", "entry a - full *", "entry - on", "entry a on",
}

// otherLines are lines whose first word is another one, and which can stand in no record
// behind its features.
var otherLines = []string{
	"", " ", "  ", "x", "entrys", "entr", "Entry", "ENTRY " + sum + " on", "Entry " + sum + " on", " entry " + sum + " on",
	"entries " + sum + " on", "entry\t" + sum + " on", "\tentry " + sum + " on", "entry\r", "entry-", "entry\x00", "\x00entry " + sum + " on",
	"on entry " + sum, sum + " on", "an entry", "shelf main", "shelf", "package a 1.0.0", "package", "need", "any b - full *", "when os = a",
	"option o", "bar b *", "-", "\xff", "\xffentry " + sum + " on", "\u00e9",
}

// P14.1: lines that must be those of entries and are not.
func TestEntryLines(t *testing.T) {
	const last = "entry 753db30179be16d0 on\n" + odd
	before := next(strings.TrimSuffix(baseText, last))
	for _, end := range []string{"", "\n", "\n" + plain, "\n\n", "\nx", "\n" + part(plain, "on"), "\nentry\n", "\n" + rich + part(newer, "on")} {
		for _, line := range wrongEntries {
			checkRefused(t, head+line+end, api.ErrForm, 2)
			checkRefused(t, head+part(newer, "on")+line+end, api.ErrForm, 7)
			checkRefused(t, baseText+line+end, api.ErrForm, next(baseText))
			checkParse(t, head+line+end)
			checkParse(t, baseText+line+end)
		}
		for _, line := range otherLines {
			if line+end == "" {
				continue
			}
			checkRefused(t, head+line+end, api.ErrForm, 2)
			checkRefused(t, baseText+line+end, api.ErrForm, before)
			checkParse(t, head+line+end)
			checkParse(t, baseText+line+end)
		}
	}
}

// P14.1: the word `entry` ends a record wherever it is the first of a line, and nowhere
// else.
func TestWordEntry(t *testing.T) {
	for _, c := range []struct {
		s   string
		err api.Errno
		at  int
	}{
		// Without a record of its own, an entry has the error of the empty string.
		{"entry " + sum + " on\n", api.ErrForm, 2},
		{"entry " + sum + " on\n" + part(plain, "on"), api.ErrForm, 2},
		{"entry 9e3779bd8ef1b1de on\n" + part(plain, "on"), api.ErrForm, 2}, // the Sum of the empty string
		{"entry " + sum + " on\n" + part(strings.Repeat("x", 5000), "on"), api.ErrForm, 2},
		{"entry " + sum + " on\nentry " + strings.Repeat("x", 5000), api.ErrForm, 2},
		{part(plain, "on") + "entry " + sum + " on\n", api.ErrForm, 4},
		{part(plain, "on") + "entry " + sum + " on\n" + part(newer, "on"), api.ErrForm, 4},
		// The lines of a record are cut off by the next such line.
		{part("package b 1.0.0\nneed\n", "on"), api.ErrNone, 2},
		{part("package b 1.0.0\nneed\n", "on") + part(plain, "on"), api.ErrNone, 2},
		{part("package b 1.0.0\nneed\n", "on") + "entry\nany c - full *\n", api.ErrNone, 2},
		{part("package b 1.0.0\n", "on") + "entry\nneed\nany c - full *\n", api.ErrForm, 4},
		{part("package b 1.0.0\n", "on") + "entry c - full *\n", api.ErrForm, 4},
		{part(odd, "on") + "entry on\n", api.ErrForm, 8},
		{part("package entry 1.0.0\nfeature entry\n", "on") + "entry entry\n", api.ErrForm, 5},
		// Within a line, the word is any other.
		{part("package b 1.0.0\nneed entry\n", "on"), api.ErrForm, 2},
		{part("package b 1.0.0\n entry\n", "on"), api.ErrForm, 2},
		{part("package b 1.0.0\nbar entry entry\n", "on"), api.ErrRange, 2},
	} {
		checkRefused(t, head+c.s, c.err, c.at)
		checkParse(t, head+c.s)
	}
}

// P14.1: bytes after the last byte 10, at every place.
func TestEnds(t *testing.T) {
	for i := range len(baseText) + 1 {
		checkParse(t, baseText[:i])
		checkParse(t, baseText[i:])
		checkParse(t, head+baseText[i:])
	}
	for i := range len(head) {
		checkRefused(t, head[:i], api.ErrForm, 1)
	}
	// The second entry begins in line 10. Without its whole first word, the bytes belong
	// to the record of the first entry.
	from := strings.Index(baseText, "entry "+sum)
	for i := from + 1; i < from+len(part(plain, "off")); i++ {
		want := 10
		if i < from+len("entry") {
			want = 2
		}
		checkRefused(t, baseText[:i], api.ErrForm, want)
	}
	for b := range 256 {
		c := string([]byte{byte(b)})
		checkRefused(t, head+c, api.ErrForm, 2)
		checkRefused(t, head+part(plain, "on")+c, api.ErrForm, 2)
		checkRefused(t, head+part(plain, "on")+part(rich, "off")+c, api.ErrForm, 4)
	}
	checkRefused(t, head+part(plain, "on")+"entry", api.ErrForm, 4)
	checkRefused(t, head+part(plain, "on")+"entry ", api.ErrForm, 4)
	checkRefused(t, head+part(plain, "on")+"entry "+sum+" on", api.ErrForm, 4)
	checkRefused(t, head+"entry "+sum+" on", api.ErrForm, 2)
	checkRefused(t, head+strings.TrimSuffix(part(plain, "on"), "\n"), api.ErrForm, 2)
}

// wrongRecords are strings that Parse of package record refuses.
var wrongRecords = []struct {
	text string
	err  api.Errno
}{
	{"", api.ErrForm}, {"\n", api.ErrForm}, {"x", api.ErrForm}, {"package", api.ErrForm}, {"package a 1.0.0", api.ErrForm}, {"package a 1.0\n", api.ErrForm},
	{"package a 1.0.0\n\n", api.ErrForm}, {"package a 1.0.0\nneeds\n", api.ErrForm}, {plain + plain, api.ErrForm}, {head, api.ErrForm},
	{"package A 1.0.0\n", api.ErrName}, {"package a 1.0.0\nneed\nany B - full *\n", api.ErrName}, {"package a 1.0.0\nneed\n", api.ErrNone},
	{"package a 1.0.0\nbar a *\n", api.ErrTwice}, {"package a 1.0.0\nbar b 1\n", api.ErrRange}, {"package a 1.0.0\nbar b *\nwhen os\n", api.ErrMark},
	{"package a 1.0.0\nneed\nany b - full *\noption O\n", api.ErrOption}, {"package a 1.0.0\nfeature F\n", api.ErrFeature},
	{"package a 1.0.0\nfeature f b/c\n", api.ErrNeed}, {"package a 1.0.0\n" + strings.Repeat("bar b *\n", 9), api.ErrLong},
	{strings.Repeat("x", 4096), api.ErrForm}, {strings.Repeat("x", 4097), api.ErrLong}, {plain + strings.Repeat("\n", 4096), api.ErrLong},
	{"package a 1.0.0\n" + strings.Repeat("need\n", 9), api.ErrLong}, {strings.Repeat("x\n", 100000), api.ErrLong},
}

// P14.1: the error of a record is told with the line of its entry.
func TestRecords(t *testing.T) {
	const other = "package z 1.0.0\n"
	for _, c := range wrongRecords {
		for ahead := range 4 {
			s := head + strings.Join([]string{part(rich, "off"), part(newer, "on"), part(odd, "on")}[:ahead], "")
			for _, own := range []string{part(c.text, "on"), part(c.text, "off"), "entry " + sum + " on\n" + c.text} {
				checkRefused(t, s+own, c.err, next(s))
				checkParse(t, s+own)
				if c.text == "" || strings.HasSuffix(c.text, "\n") {
					checkRefused(t, s+own+part(other, "on"), c.err, next(s))
					checkRefused(t, s+own+"entry\n", c.err, next(s))
					checkRefused(t, s+own+"entry", c.err, next(s))
				}
			}
		}
	}
}

// P14.1: the Sum in the line of an entry is that of its record.
func TestSums(t *testing.T) {
	for at, e := range base().Entries {
		s := baseText
		line := next(s[:strings.Index(s, digest.Text(e.Sum))])
		for bit := range 64 {
			other := digest.Text(e.Sum ^ 1<<bit)
			checkRefused(t, strings.Replace(s, digest.Text(e.Sum), other, 1), api.ErrSum, line)
			x := base()
			x.Entries[at].Sum ^= 1 << bit
			checkBad(t, x)
		}
		for _, other := range base().Entries {
			if other.Sum != e.Sum {
				checkRefused(t, strings.Replace(s, digest.Text(e.Sum), digest.Text(other.Sum), 1), api.ErrSum, line)
			}
		}
		checkRefused(t, strings.Replace(s, digest.Text(e.Sum), "0000000000000000", 1), api.ErrSum, line)
		checkRefused(t, strings.Replace(s, digest.Text(e.Sum), sumText(s), 1), api.ErrSum, line)
	}
	// Of a record that is changed, the Sum is another one.
	for _, c := range [][2]string{{"a f full ^1", "a f full ^2"}, {"package b", "package d"}, {"0.9.0-rc.1+x", "0.9.0-rc.1"}, {"a f full", "a f bare"}, {"bar c <2\n", ""}} {
		checkRefused(t, strings.Replace(baseText, c[0], c[1], 1), api.ErrSum, 2)
	}
}

// P14.1: an earlier entry with the same Name and the same version.
func TestTwice(t *testing.T) {
	for _, c := range []struct {
		a, b string
		same bool
	}{
		{"x 1.0.0", "x 1.0.0", true}, {"x 1.0.0", "x 1.0.0+a", true}, {"x 1.0.0+b", "x 1.0.0", true}, {"x 1.0.0+b", "x 1.0.0+a", true},
		{"x 1.0.0-rc.1+b", "x 1.0.0-rc.1", true}, {"x 1.0.0", "x 1.0.0\nbar y *", true}, {"x 0.0.0", "x 0.0.0+0", true}, {"x 1.0.0-1", "x 1.0.0-1+1", true},
		{"x 1.0.0", "w 1.0.0", false}, {"x 1.0.0", "x-1 1.0.0", false}, {"x 1.0.0", "xx 1.0.0", false}, {"x 1.0.0", "x 1.0.1", false},
		{"x 1.0.0", "x 1.1.0", false}, {"x 1.0.0", "x 2.0.0", false}, {"x 1.0.0", "x 1.0.0-0", false}, {"x 1.0.0-a", "x 1.0.0-b", false},
		{"x 1.0.0-a", "x 1.0.0-a.0", false}, {"x 1.0.0+a", "x 1.0.0-a", false}, {"x 1.0.0-1", "x 1.0.0-10", false}, {"x 1.1.0", "x 1.10.0", false},
	} {
		for _, states := range [][2]string{{"on", "on"}, {"on", "off"}, {"off", "on"}, {"off", "off"}} {
			a, b := part("package "+c.a+"\n", states[0]), part("package "+c.b+"\n", states[1])
			for _, between := range []string{"", part(rich, "on"), part(newer, "off") + part(odd, "on")} {
				for _, s := range []string{a + between + b, b + between + a} {
					if checkParse(t, head+s) == c.same {
						t.Errorf("Parse(%q): want %t", s, !c.same)
					}
				}
				if c.same {
					checkRefused(t, head+a+between+b, api.ErrTwice, next(head+a+between))
					checkRefused(t, head+a+between+b+"entry\n", api.ErrTwice, next(head+a+between))
					checkRefused(t, head+between+a+b+part(odd, "on"), api.ErrTwice, next(head+between+a))
				}
			}
		}
	}
	// Each of many entries may be the earlier one.
	s := full(63)
	x, _, _ := parseOf(s)
	for i, e := range x.Entries {
		text, _ := record.Print(e.Rec)
		checkRefused(t, s+part(text, "on"), api.ErrTwice, next(s))
		x.Entries[i].Yanked = !e.Yanked
		checkRead(t, printOf(x), x)
	}
}

// P14.1: the number of entries.
func TestFull(t *testing.T) {
	for _, n := range []int{0, 1, 2, 3, 62, 63, 64} {
		want, err, _ := parseOf(full(n))
		if err != api.OK || len(want.Entries) != n {
			t.Fatalf("%d entries: %v", n, err)
		}
		checkRead(t, full(n), want)
	}
	for _, n := range []int{65, 66, 67, 128, 129, 1000} {
		checkRefused(t, full(n), api.ErrFull, 130)
		checkRefused(t, full(n)+"entry", api.ErrFull, 130)
	}
	s := full(64)
	for _, c := range []struct {
		own string
		err api.Errno
	}{
		{"entry", api.ErrForm}, {"entry " + sum + " on", api.ErrForm}, {"entry " + sum + " on\n", api.ErrForm}, {"entry " + sum + " no\n" + plain, api.ErrForm},
		{part("package A 1.0.0\n", "on"), api.ErrName}, {part("package p 0.0.0\nneed\n", "on"), api.ErrNone},
		{"entry " + sum + " on\npackage p 0.0.0\n", api.ErrSum}, {"entry " + sum + " on\npackage s 0.0.0\n", api.ErrSum},
		{part("package p 0.0.0\n", "on"), api.ErrTwice}, {part("package p 0.0.0+b\n", "off"), api.ErrTwice}, {part("package p 3.15.0\n", "on"), api.ErrFull},
		{part(plain, "off"), api.ErrFull}, {part(rich, "on") + "entry\n", api.ErrFull}, {part(rich, "on") + part(rich, "on"), api.ErrFull},
	} {
		checkRefused(t, s+c.own, c.err, 130)
		checkParse(t, s+c.own)
	}
	// A line that is none of an entry belongs to the last record.
	checkRefused(t, s+"x", api.ErrForm, 128)
	checkRefused(t, s+"\n", api.ErrForm, 128)
}

// P14.1: of several errors, that of the first line counts, and of one line the first in
// their order.
func TestOrder(t *testing.T) {
	ahead := head + part("package p 0.0.0\n", "on")
	wrong := []struct {
		own string
		err api.Errno
	}{
		{"entry " + sum + " no\npackage P 0.0\n", api.ErrForm}, // each with all the later errors
		{"entry " + sum + " on\npackage P 0.0\n", api.ErrForm},
		{"entry " + sum + " on\npackage P 0.0.0\n", api.ErrName},
		{"entry " + sum + " on\npackage p 0.0.0\nneed\n", api.ErrNone},
		{"entry " + sum + " on\npackage p 0.0.0\n", api.ErrSum},
		{part("package p 0.0.0\n", "on"), api.ErrTwice},
	}
	for _, a := range wrong {
		for _, s := range []string{ahead, ahead + part(rich, "on"), full(64)} {
			checkRefused(t, s+a.own, a.err, next(s))
			for _, b := range wrong {
				checkRefused(t, s+a.own+b.own, a.err, next(s))
				checkRefused(t, s+a.own+part(newer, "on")+b.own, a.err, next(s))
				checkRefused(t, strings.Replace(s, "shelf", "Shelf", 1)+a.own+b.own, api.ErrForm, 1)
			}
		}
	}
}

// P14.1: the number of bytes.
func TestBytes(t *testing.T) {
	fill := func(s string, n int) string {
		return s + strings.Repeat("x", n-len(s))
	}
	for _, c := range []struct {
		s   string
		err api.Errno
		at  int
	}{
		{"", api.ErrForm, 1}, {head, api.ErrForm, 2}, {"shelf main\nentry ", api.ErrForm, 2}, {head + part(plain, "on"), api.ErrLong, 2},
		{head + part(plain, "on") + part(newer, "off"), api.ErrLong, 4}, {baseText + "entry", api.ErrLong, next(baseText) - 6},
		{baseText + "entry ", api.ErrForm, next(baseText)}, {full(64), api.ErrLong, 128}, {full(65), api.ErrLong, 130},
		{full(65) + "entry ", api.ErrFull, 130},
	} {
		for _, n := range []int{524286, 524287, 524288} {
			checkRefused(t, fill(c.s, n), c.err, c.at)
		}
		for _, n := range []int{524289, 524290, 600000, 1 << 20} {
			checkRefused(t, fill(c.s, n), api.ErrLong, 0)
			checkRefused(t, fill(c.s, n-1)+"\n", api.ErrLong, 0)
		}
	}
}

// P14.1, P14.2: the longest records, and as many of them as can be.
func TestGreat(t *testing.T) {
	start := time.Now()
	s := head
	for i := range 64 {
		text := fmt.Sprintf("package p%d 1.0.%d\n", i, i)
		for range 8 {
			text += "need\n" + strings.Repeat("any q - full >=0.0.0-0, <9999.9999.9999-zzzzzzzz || =9999.9999.9999-zzzzzzzz || <1, >2\n", 3)
			text += "when os = linux and ( arch = arm or arch = x86 ) and abi != musl\noption " + strings.Repeat("o", 12) + "\n"
		}
		for range 8 {
			text += "bar z " + strings.Repeat("<9999.9999.9999-zzzzzzzz || ", 3) + "*\nwhen os = linux\n"
		}
		s += part(text, "off")
	}
	if len(s) < 200000 {
		t.Errorf("only %d bytes", len(s))
	}
	if !checkParse(t, s) {
		t.Errorf("the great shelf is not read")
	}
	if took := time.Since(start); took > 20*time.Second {
		t.Errorf("the great shelf took %v", took)
	}
}

// P14.1, P14.2: the string of a shelf with one byte changed, left out or put in.
func TestEveryByte(t *testing.T) {
	s := head + part("package b 0.1.0-a\nbar c *\n", "off") + part(plain, "on")
	good := 0
	for i := range len(s) + 1 {
		for b := range 256 {
			c := string([]byte{byte(b)})
			l := []string{s[:i] + c + s[i:]}
			if i < len(s) {
				l = append(l, s[:i]+c+s[i+1:])
			}
			if i < len(s) && b == 0 {
				l = append(l, s[:i]+s[i+1:], s[:i]+s[i:i+1]+s[i:])
			}
			for _, changed := range l {
				if checkParse(t, changed) {
					good++
				}
			}
			if t.Failed() {
				return
			}
		}
	}
	if good < 250 {
		t.Errorf("only %d strings are read", good)
	}
}

// P14.1, P14.2: all sequences of up to six pieces out of some.
func TestSequences(t *testing.T) {
	pieces := []string{head, "entry " + sum + " on\n", plain, part("package b 1.0.0\n", "off"), part("package a 1.0.0+b\n", "on"), "entry x\n", "bar c *\n"}
	level, good := []string{""}, 0
	for range 6 {
		var longer []string
		for _, s := range level {
			for _, p := range pieces {
				longer = append(longer, s+p)
			}
		}
		for _, s := range longer {
			if checkParse(t, s) {
				good++
			}
			if t.Failed() {
				return // as thousands of strings would be told
			}
		}
		level = longer
	}
	if good != 8 {
		t.Errorf("%d strings are read", good)
	}
}

// pool are the strings of records of which random shelves are made; some are the same
// version.
func pool() []string {
	var l []string
	for _, name := range []string{"a", "b", "entry"} {
		for _, v := range []string{"1.0.0", "1.0.0+x", "1.0.0-rc", "0.9.0", "0.10.0", "2.0.0"} {
			for _, rest := range []string{"", "need\nany d f full ^1\nwhen os = linux\noption o\n", "bar shelf <2\nfeature g\nfeature h g\n"} {
				l = append(l, "package "+name+" "+v+"\n"+rest)
			}
		}
	}
	return l
}

// P14.1, P14.2, T3: shelves as they are published, and their strings.
func TestRandom(t *testing.T) {
	r := rand.New(rand.NewSource(1))
	l := pool()
	for i := 0; i < 400 && !t.Failed(); i++ {
		x := api.Shelf{Name: []string{"main", "entry", "a"}[r.Intn(3)]}
		for range r.Intn(12) {
			one := entryOf(l[r.Intn(len(l))], false).Rec
			if more, err := shelf.Put(x, one); err == api.OK {
				x = more
			}
			if less, err := shelf.Yank(x, one.Name, one.V, r.Intn(2) == 0); err == api.OK {
				x = less
			}
		}
		checkRead(t, printOf(x), x)
	}
}

// P14.1, P14.2: random entries, right and wrong, with random lines among them.
func TestRandomLines(t *testing.T) {
	r := rand.New(rand.NewSource(2))
	l := pool()
	good := 0
	for i := 0; i < 20000 && !t.Failed(); i++ {
		s := head
		for range r.Intn(6) {
			s += part(l[r.Intn(len(l))], []string{"on", "off"}[r.Intn(2)])
		}
		if r.Intn(3) == 0 {
			at := strings.LastIndex(s[:r.Intn(len(s))+1], "\n") + 1
			lines := []string{otherLines[r.Intn(len(otherLines))] + "\n", wrongEntries[r.Intn(len(wrongEntries))] + "\n", "entry " + sum + " on\n", part(plain, "on"), "entry", "x"}
			s = s[:at] + lines[r.Intn(len(lines))] + s[at:]
		}
		if checkParse(t, s) {
			good++
		}
	}
	if good < 4000 {
		t.Errorf("only %d strings are read", good)
	}
}

// P14.1, P14.2, T3: random bytes, and beginnings of strings with ends of others.
func TestRandomBytes(t *testing.T) {
	r := rand.New(rand.NewSource(3))
	const letters = "entry on  off 0f\n\n\nshelf \xff\x00"
	strs := []string{baseText, full(3), head, head + part(plain, "on") + part(odd, "off")}
	for i := 0; i < 10000 && !t.Failed(); i++ {
		b := make([]byte, r.Intn(60))
		for i := range b {
			b[i] = letters[r.Intn(len(letters))]
		}
		checkParse(t, string(b))
		checkParse(t, head+string(b))
		checkParse(t, head+part(plain, "on")+string(b))
		one, two := strs[r.Intn(len(strs))], strs[r.Intn(len(strs))]
		checkParse(t, one[:r.Intn(len(one)+1)]+two[r.Intn(len(two)+1):])
	}
}

// region is a part of the memory.
type region struct{ from, to uintptr }

// regions are the strings of v and its lists, each list with what lies behind it.
func regions(v reflect.Value) []region {
	var l []region
	switch v.Kind() {
	case reflect.String:
		from := uintptr(unsafe.Pointer(unsafe.StringData(v.String())))
		l = append(l, region{from, from + uintptr(v.Len())})
	case reflect.Slice:
		l = append(l, region{v.Pointer(), v.Pointer() + uintptr(v.Cap())*v.Type().Elem().Size()})
		for i := range v.Len() {
			l = append(l, regions(v.Index(i))...)
		}
	case reflect.Struct:
		for i := range v.NumField() {
			l = append(l, regions(v.Field(i))...)
		}
	}
	return l
}

// apart reports whether no two strings or lists of these values share memory.
func apart(values ...any) bool {
	var l []region
	for _, x := range values {
		l = append(l, regions(reflect.ValueOf(x))...)
	}
	l = slices.DeleteFunc(l, func(x region) bool { return x.from == x.to })
	for i, a := range l {
		for _, b := range l[:i] {
			if a.from < b.to && b.from < a.to {
				return false
			}
		}
	}
	return true
}

// R4 for P14.1: results are new memory, and no two lists of one share any.
func TestMemory(t *testing.T) {
	for _, s := range []string{baseText, head, head + part(plain, "on"), full(64)} {
		s = strings.Clone(s)
		a, _, _ := Parse(s)
		b, _, _ := Parse(s)
		c, _ := Print(a)
		d, err := Print(a)
		if !apart(s, a, b, c, d) || err != api.OK || c != s || d != s || !same(a, b) {
			t.Errorf("the results for %.400q share memory", s)
		}
		a.Entries = append(a.Entries, api.Entry{Sum: 7})
		a.Entries[0] = api.Entry{Sum: 7}
		checkRead(t, s, b)
	}
	if x := "x"; apart(x, x) || apart([]string{x}, x) {
		t.Error("apart")
	}
}

// R4 for P14.1: a shelf that is printed stays as it is, with what lies behind its lists.
func TestArgument(t *testing.T) {
	for n := range 5 {
		x, behind := base(), entryOf("package behind 1.0.0\n", true)
		for i := n; i < 4; i++ {
			x.Entries[i] = behind
		}
		for i := range n {
			e := &x.Entries[i].Rec
			e.Needs = append(e.Needs, api.Need{Option: "behind"})[:len(e.Needs)]
			e.Bars = append(e.Bars, api.Bar{Name: "behind"})[:len(e.Bars)]
		}
		was := fmt.Sprint(x)
		checkRead(t, printOf(main(base().Entries[:n]...)), main(x.Entries[:n]...))
		if fmt.Sprint(x) != was {
			t.Errorf("of %d entries, the argument became %v", n, x)
		}
		for i := range n {
			e := x.Entries[i].Rec
			if e.Needs[:len(e.Needs)+1][len(e.Needs)].Option != "behind" || e.Bars[:len(e.Bars)+1][len(e.Bars)].Name != "behind" {
				t.Errorf("what lies behind the lists of entry %d was changed", i)
			}
		}
	}
	// An empty list is the same as nil.
	x := main(entryOf(plain, false))
	x.Entries[0].Rec.Needs, x.Entries[0].Rec.Bars, x.Entries[0].Rec.Features = []api.Need{}, []api.Bar{}, []api.Feature{}
	checkRead(t, head+part(plain, "on"), x)
	checkRead(t, head, main(x.Entries[:0]...))
}

// R5 for P14.1: several goroutines may call the functions at the same time.
func TestTogether(t *testing.T) {
	wrong := make(chan string)
	x, many := base(), full(64)
	for i := range 8 {
		go func() {
			var told string
			own := full(i)
			for range 40 {
				a, err := Print(x)
				b, fault, at := Parse(baseText)
				c, _, _ := Parse(own)
				d, _, line := Parse(many + "entry")
				if err != api.OK || a != baseText || fault != api.OK || at != 0 || !same(b, x) || len(c.Entries) != i || d.Name != "" || line != 130 {
					told = "a result depends on other calls"
				}
			}
			wrong <- told
		}()
	}
	for range 8 {
		if told := <-wrong; told != "" {
			t.Error(told)
		}
	}
}

// R1 for P14.1: arguments of any length and any bytes.
func TestLong(t *testing.T) {
	start := time.Now()
	for _, b := range []string{"a", "0", " ", "-", "\n", "\x00", "\xff", "entry", "entry\n", "entry ", "shelf ", head, plain, part(plain, "on"), baseText} {
		for _, s := range []string{b, head + b, head + part(plain, "on") + b} {
			one := s + strings.Repeat(b, (524288-len(s))/len(b))
			checkParse(t, one)
			checkRefused(t, s+strings.Repeat(b, 1<<22/len(b)), api.ErrLong, 0)
		}
		long := strings.Repeat(b, 1<<20/len(b))
		checkBad(t, api.Shelf{Name: long})
		x := base()
		x.Entries[2].Rec.Bars = []api.Bar{{Name: "y", Range: long}}
		checkBad(t, x)
	}
	checkBad(t, main(make([]api.Entry, 1<<20)...))
	if took := time.Since(start); took > 30*time.Second {
		t.Errorf("long arguments took %v", took)
	}
}

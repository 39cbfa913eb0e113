package record

import (
	"math/rand"
	"regexp"
	"slices"
	"strings"
	"testing"

	"linchpin/api"
	"linchpin/version"
)

// lineForms are what lines of each kind look like, by letters for their kinds.
var lineForms = map[string]*regexp.Regexp{
	"p": regexp.MustCompile(`^package ([^ ]+) ([^ ]+)$`),
	"n": regexp.MustCompile(`^need$`),
	"a": regexp.MustCompile(`^any ([^ ]+) ([^ ]+) (bare|full) (.+)$`),
	"w": regexp.MustCompile(`^when (.+)$`),
	"o": regexp.MustCompile(`^option ([^ ]+)$`),
	"b": regexp.MustCompile(`^bar ([^ ]+) (.+)$`),
	"f": regexp.MustCompile(`^feature ([^ ]+)((?: [^ ]+)*)$`),
}

// lineOrder are the orders of lines. All first parts of one are others.
var lineOrder = regexp.MustCompile(`^p(na*w?o?)*(bw?)*f*$`)

// lineOf is the letter and the parts of a line.
func lineOf(line string) (string, []string) {
	for letter, form := range lineForms {
		if m := form.FindStringSubmatch(line); m != nil {
			return letter, m
		}
	}
	return "?", nil
}

// addOf adds a line to r, and reports whether it can be read.
func addOf(r *api.Record, letter string, m []string, behindBar bool) bool {
	needs, bars := len(r.Needs)-1, len(r.Bars)-1
	switch letter {
	case "p":
		v, err := version.Parse(m[2])
		r.Name, r.V = m[1], v
		return err == api.OK
	case "n":
		r.Needs = append(r.Needs, api.Need{})
	case "a":
		w := api.Wish{Name: m[1], Features: strings.Split(m[2], ","), Bare: m[3] == "bare", Range: m[4]}
		if m[2] == "-" {
			w.Features = nil
		}
		r.Needs[needs].Any = append(r.Needs[needs].Any, w)
	case "w":
		if behindBar {
			r.Bars[bars].When = m[1]
		} else {
			r.Needs[needs].When = m[1]
		}
	case "o":
		r.Needs[needs].Option = m[1]
	case "b":
		r.Bars = append(r.Bars, api.Bar{Name: m[1], Range: m[2]})
	case "f":
		r.Features = append(r.Features, api.Feature{Name: m[1], Of: strings.Split(m[2], " ")[1:]})
	}
	return true
}

// parseOf is a second Parse.
func parseOf(s string) (api.Record, api.Errno, int) {
	var r api.Record
	if len(s) > 4096 {
		return r, api.ErrLong, 0
	}
	lines := strings.Split(s, "\n")
	ended := lines[:len(lines)-1]
	letters := ""
	for i, line := range ended {
		letter, m := lineOf(line)
		behindBar := strings.HasSuffix(letters, "b")
		letters += letter
		if !lineOrder.MatchString(letters) || !addOf(&r, letter, m, behindBar) {
			return api.Record{}, api.ErrForm, i + 1
		}
	}
	if len(ended) == 0 || lines[len(ended)] != "" {
		return api.Record{}, api.ErrForm, len(lines)
	}
	if err, _ := faultOf(r); err != api.OK {
		return api.Record{}, err, 0
	}
	return r, api.OK, 0
}

// checkRefused holds Parse against a string that it refuses.
func checkRefused(t *testing.T, s string, want api.Errno, at int) {
	t.Helper()
	if r, err, i := Parse(s); err != want || i != at || form(r) != form(api.Record{}) {
		t.Errorf("Parse(%.300q): %s, %v, %d; want %v, %d", s, some(r), err, i, want, at)
	}
}

// checkParse holds Parse against parseOf, and Print against s, and reports whether s is
// the string of a record.
func checkParse(t *testing.T, s string) bool {
	t.Helper()
	want, err, at := parseOf(s)
	if err != api.OK {
		checkRefused(t, s, err, at)
		return false
	}
	r, err, at := Parse(s)
	if err != api.OK || at != 0 || form(r) != form(want) {
		t.Errorf("Parse(%q): %s, %v, %d; want %s", s, form(r), err, at, form(want))
	}
	if printed, err := Print(r); err != api.OK || printed != s {
		t.Errorf("Print of Parse(%q): %q, %v", s, printed, err)
	}
	return true
}

// baseText is the string of base, and smallText that of small.
const (
	baseText = "package app 1.2.3-rc.1+b.7\n" +
		"need\n" +
		"any zip best,fast bare >=1, <2 || =3.1.4\n" +
		"when os = linux or arch != x86\n" +
		"option net\n" +
		"need\n" +
		"any tls - full ^1\n" +
		"any ssl-lib - bare *\n" +
		"need\n" +
		"any log - full ~0.3\n" +
		"option trace\n" +
		"bar old <1\n" +
		"bar zip =1.5\n" +
		"when abi = musl\n" +
		"feature all ?net ?trace default log/more none zip/best\n" +
		"feature none\n" +
		"feature quick ?net zip/fast\n"
	smallText = "package a 0.0.0\nneed\nany b - full *\nbar c *\nfeature f\n"
)

// P12.2: the strings of some records, written out.
func TestTable(t *testing.T) {
	for s, r := range map[string]api.Record{
		baseText:                            base(),
		smallText:                           small(),
		"package a 0.0.0\n":                 {Name: "a"},
		"package package 9999.0.10-0+0.0\n": {Name: "package", V: api.Version{Major: 9999, Patch: 10, Pre: "0", Build: "0.0"}},
		"package a 0.0.0\nbar b *\nbar b *\nwhen os = a\nbar b 1.*\n": {Name: "a",
			Bars: []api.Bar{{Name: "b", Range: "*"}, {Name: "b", Range: "*", When: "os = a"}, {Name: "b", Range: "1.*"}}},
		"package a 0.0.0\nfeature default\nfeature x default x\n": {Name: "a",
			Features: []api.Feature{{Name: "default"}, {Name: "x", Of: []string{"default", "x"}}}},
		"package a 0.0.0\nneed\nany b f full *, *\noption o\nfeature f ?o\n": {Name: "a",
			Needs:    []api.Need{{Any: []api.Wish{{Name: "b", Range: "*, *", Features: []string{"f"}}}, Option: "o"}},
			Features: []api.Feature{{Name: "f", Of: []string{"?o"}}}},
		"package a 0.0.0\nneed\nany b 0,_,bare,full bare *\nwhen abi = any\n" +
			"need\nany c - bare *\nany b - full *\nany c - full *\n": {Name: "a", Needs: []api.Need{
			{Any: []api.Wish{{Name: "b", Range: "*", Features: []string{"0", "_", "bare", "full"}, Bare: true}}, When: "abi = any"},
			{Any: []api.Wish{{Name: "c", Range: "*", Bare: true}, {Name: "b", Range: "*"}, {Name: "c", Range: "*"}}}}},
	} {
		checkGood(t, r, s)
		if textOf(r) != s || form(copied(r)) != form(r) {
			t.Errorf("the second text of %q: %q", s, textOf(r))
		}
		if !checkParse(t, s) {
			t.Errorf("the second Parse does not accept %q", s)
		}
	}
}

// P12.2: lines without the form that they should have, with their numbers.
func TestForms(t *testing.T) {
	for _, l := range []struct {
		ahead string
		wrong []string
	}{
		{"", []string{"", " ", "package", "package ", "package a", "package a ", "package a 1", "package a 1.0", "package a 01.0.0",
			"package a v1.0.0", "package a 10000.0.0", "package a 0.0.0-", "package a 0.0.0+",
			"package a 0.0.0-01", "package a 0.0.0 ", "package a  0.0.0", "package  a 0.0.0", "package  0.0.0", " package a 0.0.0",
			"package a 0.0.0 b", "Package a 0.0.0", "packages a 0.0.0", "package\ta 0.0.0", "package a\t0.0.0",
			"package a 0.0.0\r", "pack a 0.0.0", "need", "any b - full *", "when os = a", "option o", "bar b *", "feature f", "\xff", "\x00"}},
		{"package a 0.0.0\n", []string{"", " ", "x", "need ", "need x", " need", "Need", "needs", "need\r", "package b 0.0.0",
			"any b - full *", "when os = a", "option o", "bar", "bar ", "bar b", "bar b ", "bar  *", "bar  b *",
			"bars b *", "feature", "feature ", "feature  ", "feature f ", "feature  f", "feature f  g", "feature f g ", "features f", "-", "*"}},
		{"package a 0.0.0\nneed\n", []string{"any", "any ", "any b", "any b ", "any b -", "any b - ", "any b - full", "any b - full ",
			"any b - bare", "any b - bare ", "any  - full *", "any b  full *", "any b -  *", "any b - * full",
			"any b full *", "any b - half *", "any b - Full *", "any b - bare, *", "any b - full\t*", "any  b - full *", "any b  - full *",
			"any b -  full *", "any b a, c full *", "any b - - *", "need ", "when", "when ", "option",
			"option ", "option  o", "option o ", "option o p", "options o", "package a 0.0.0", ""}},
		{"package a 0.0.0\nneed\nany b - full *\n", []string{"when ", "when", "whens os = a", "option ", "option a b", "option  a",
			"any c - full", "", "package a 0.0.0", "any"}},
		{"package a 0.0.0\nneed\nwhen os = a\n", []string{"any b - full *", "when os = a", "when", "option", "option ",
			"package a 0.0.0", ""}},
		{"package a 0.0.0\nneed\noption o\n", []string{"any b - full *", "when os = a", "option o", "option p", "package a 0.0.0"}},
		{"package a 0.0.0\nneed\nany b - full *\nwhen os = a\noption o\n",
			[]string{"any b - full *", "when os = a", "option p", "package a 0.0.0", " "}},
		{"package a 0.0.0\nbar b *\n", []string{"need", "any b - full *", "option o", "when", "when ", "bar b", "package a 0.0.0", ""}},
		{"package a 0.0.0\nbar b *\nwhen os = a\n", []string{"when os = a", "need", "any b - full *", "option o", "package a 0.0.0", ""}},
		{"package a 0.0.0\nneed\nany b - full *\nbar b *\n", []string{"need", "any b - full *", "option o", "package a 0.0.0"}},
		{"package a 0.0.0\nfeature f\n", []string{"need", "any b - full *", "when os = a", "option o", "bar b *", "feature",
			"package a 0.0.0", ""}},
		{baseText, []string{"need", "any b - full *", "when os = a", "option o", "bar b *", "", "package app 1.2.3"}},
	} {
		at := strings.Count(l.ahead, "\n") + 1
		for _, line := range l.wrong {
			checkRefused(t, l.ahead+line+"\n", api.ErrForm, at)
			checkRefused(t, l.ahead+line+"\nx", api.ErrForm, at)
			checkRefused(t, l.ahead+line+"\n\n", api.ErrForm, at)
			checkRefused(t, l.ahead+line+"\nneed\nany b - full *\n", api.ErrForm, at)
			checkParse(t, l.ahead+line+"\n")
			if line != "" {
				checkRefused(t, l.ahead+line, api.ErrForm, at)
			}
		}
	}
}

// P12.2: a line that has its form but does not end, and a line that is missing.
func TestEnds(t *testing.T) {
	checkRefused(t, "", api.ErrForm, 1)
	checkRefused(t, "\n", api.ErrForm, 1)
	checkRefused(t, "package a 0.0.0", api.ErrForm, 1)
	checkRefused(t, "package A 0.0.0\nneed", api.ErrForm, 2)
	for _, s := range []string{baseText, smallText} {
		for i := range len(s) {
			at := strings.Count(s[:i], "\n") + 1
			if i == 0 || s[i-1] != '\n' {
				checkRefused(t, s[:i], api.ErrForm, at)
			}
			checkParse(t, s[:i])
			checkParse(t, s[i:])
		}
		lines := strings.Count(s, "\n")
		for b := range 256 {
			checkRefused(t, s+string([]byte{byte(b)}), api.ErrForm, lines+1)
		}
	}
}

// P12.2: strings of the right form which Check refuses.
func TestLeft(t *testing.T) {
	const need = "package a 0.0.0\nneed\n"
	for _, x := range []struct {
		s   string
		err api.Errno
	}{
		{"package A 0.0.0\n", api.ErrName}, {"package - 0.0.0\n", api.ErrName}, {"package \xff 0.0.0\n", api.ErrName},
		{"package a\tb 0.0.0\n", api.ErrName},
		{need, api.ErrNone}, {need + "when os = a\n", api.ErrNone}, {need + "option o\n", api.ErrNone},
		{need + "need\nany b - full *\n", api.ErrNone}, {need + "bar c *\n", api.ErrNone},
		{need + "when  \noption ?\n", api.ErrNone}, {need + strings.Repeat("any b - full *\n", 4), api.ErrLong},
		{need + strings.Repeat("any B - full *\n", 40), api.ErrLong},
		{"package a 0.0.0\n" + strings.Repeat("need\n", 9), api.ErrLong},
		{"package a 0.0.0\n" + strings.Repeat("need\nany b - full *\n", 9), api.ErrLong},
		{"package a 0.0.0\n" + strings.Repeat("bar b *\n", 9), api.ErrLong},
		{"package a 0.0.0\n" + strings.Repeat("need\n", 800), api.ErrLong},
		{need + "any B - full *\n", api.ErrName}, {need + "any a - full *\n", api.ErrTwice}, {need + "any b - full 1\n", api.ErrRange},
		{need + "any b - full  *\n", api.ErrRange}, {need + "any b - full * \n", api.ErrRange},
		{need + "any b - full  \n", api.ErrRange}, {need + "any b - full full *\n", api.ErrRange},
		{need + "any b - full *\r\n", api.ErrRange},
		{need + "any b , full *\n", api.ErrFeature}, {need + "any b x, full *\n", api.ErrFeature},
		{need + "any b ,x full *\n", api.ErrFeature}, {need + "any b x,,y full *\n", api.ErrFeature},
		{need + "any b y,x full *\n", api.ErrFeature},
		{need + "any b x,x full *\n", api.ErrFeature}, {need + "any b -,- full *\n", api.ErrFeature},
		{need + "any b -- full *\n", api.ErrFeature}, {need + "any b -,a full *\n", api.ErrFeature},
		{need + "any b a,- full *\n", api.ErrFeature},
		{need + "any b x;y full *\n", api.ErrFeature}, {need + "any b x full *\nany c - full *\n", api.ErrFeature},
		{need + "any b a,b,c,d,e,f,g full *\n", api.ErrFeature},
		{need + "any b - full *\nwhen x\n", api.ErrMark}, {need + "any b - full *\nwhen  \n", api.ErrMark},
		{need + "any b - full *\nwhen  os = a\n", api.ErrMark}, {need + "any b - full *\nwhen os = a \n", api.ErrMark},
		{need + "any b - full *\noption O\n", api.ErrOption}, {need + "any b - full *\noption -\n", api.ErrOption},
		{need + "any b - full *\noption o\t\n", api.ErrOption},
		{"package a 0.0.0\nbar B *\n", api.ErrName}, {"package a 0.0.0\nbar a *\n", api.ErrTwice},
		{"package a 0.0.0\nbar b 1\n", api.ErrRange}, {"package a 0.0.0\nbar b  *\n", api.ErrRange},
		{"package a 0.0.0\nbar b - full *\n", api.ErrRange},
		{"package a 0.0.0\nbar b *\nwhen os\n", api.ErrMark}, {"package a 0.0.0\nfeature F\n", api.ErrFeature},
		{"package a 0.0.0\nfeature f\nfeature f\n", api.ErrFeature}, {"package a 0.0.0\nfeature f x\n", api.ErrFeature},
		{"package a 0.0.0\nfeature f default f\nfeature e\n", api.ErrFeature},
		{"package a 0.0.0\nfeature f ?a ?b ?c ?d ?e ?f ?g\n", api.ErrFeature}, {"package a 0.0.0\nfeature -\n", api.ErrFeature},
		{"package a 0.0.0\nfeature f ?o\n", api.ErrOption}, {"package a 0.0.0\nfeature f b/c\n", api.ErrNeed},
		{"package a 0.0.0\nbar b *\nfeature f b/c\n", api.ErrNeed},
	} {
		checkRefused(t, x.s, x.err, 0)
		checkParse(t, x.s)
	}
}

// P12.2: the order of the errors of Parse.
func TestParseOrder(t *testing.T) {
	pad := "package A 0.0.0\n" + strings.Repeat("bar B *\n", 509)
	checkRefused(t, pad+"bar B *\n", api.ErrName, 0)
	checkRefused(t, pad+"bar B *\n\n", api.ErrLong, 0)
	for n := 4089; n < 4110; n++ {
		want, first, last := api.ErrForm, 1, 511
		if n > 4096 {
			want, first, last = api.ErrLong, 0, 0
		}
		checkRefused(t, strings.Repeat("x", n), want, first)
		checkRefused(t, strings.Repeat("\n", n), want, first)
		checkRefused(t, (pad + strings.Repeat("x", 40))[:n], want, last)
	}
	// A form is looked for in all lines before anything else is.
	checkRefused(t, "package A 0.0.0\nneed\nany B x,, bare \x00\nwhen x\noption X\nbar B x\nwhen \nfeature F\n", api.ErrForm, 7)
	checkRefused(t, "package A 0.0.0\nneed\nany B x,, bare \x00\nwhen x\noption X\nbar B x\nfeature F\n", api.ErrName, 0)
	// Of two lines, the first one counts.
	checkRefused(t, "package a 0.0.0\nneed\nany b - half *\nany c - half *\n", api.ErrForm, 3)
	checkRefused(t, "package a 0.0\nneed \n", api.ErrForm, 1)
}

// P12.2, P12.4: all sequences of up to six lines out of some.
func TestSequences(t *testing.T) {
	lines := []string{"package a 0.0.0\n", "need\n", "any b - full *\n", "when os = a\n", "option o\n", "bar b *\n", "feature f\n"}
	level, good := []string{""}, 0
	for range 6 {
		var longer []string
		for _, s := range level {
			for _, line := range lines {
				longer = append(longer, s+line)
			}
		}
		for _, s := range longer {
			if checkParse(t, s) {
				good++
			}
			if t.Failed() {
				return // as thousands of strings would be told
			}
		}
		level = longer
	}
	if good < 40 {
		t.Errorf("only %d strings are read", good)
	}
}

// P12.2, P12.4: the string of a record with one byte changed, left out or put in.
func TestEveryByte(t *testing.T) {
	const s = "package ab 0.1.0-a\nneed\nany b - full *\nany c-d - bare <1\n" +
		"need\nany b a,b bare ^1, <2\nwhen os = a\noption o\nbar c *\nwhen abi != b\nfeature a ?o b/c\nfeature b a\n"
	good := 0
	for i := range len(s) + 1 {
		for b := range 256 {
			c := string([]byte{byte(b)})
			l := []string{s[:i] + c + s[i:]}
			if i < len(s) {
				l = append(l, s[:i]+c+s[i+1:])
			}
			if i < len(s) && b == 0 {
				l = append(l, s[:i]+s[i+1:], s[:i]+s[i:i+1]+s[i:])
			}
			for _, changed := range l {
				if checkParse(t, changed) {
					good++
				}
			}
			if t.Failed() {
				return
			}
		}
	}
	if good < 500 {
		t.Errorf("only %d strings are read", good)
	}
}

// P12.2, P12.4: random lines, right and wrong.
func TestRandomLines(t *testing.T) {
	r := rand.New(rand.NewSource(2))
	lines := []string{"need\n", "need\nany b - full *\n", "need\nany c f bare 1.*\noption o\n", "any b - full *\n",
		"any b f,g bare =1 || =2\n", "when os = a\n", "when not ( os = a and abi = b )\n",
		"option o\n", "bar b *\n", "bar c >1, <2\nwhen os = b\n", "feature f\n", "feature g ?o\n", "feature h f g\n"}
	odd := []string{"need \n", "any b f,, full *\n", "any B - full *\n", "any b - full x\n", "any b - none *\n", "when \n",
		"when  os = a\n", "option O\n", "option\n", "bar b\n", "bar a *\n", "feature f x/y\n", "feature f  f\n",
		"package a 0.0.0\n", "\n", "x\n", "\xff \x00\n", "need", "feature f\t\n"}
	good := 0
	for i := 0; i < 60000 && !t.Failed(); i++ {
		s := "package a 0.0.0\n"
		var picked []int
		for range r.Intn(8) {
			picked = append(picked, r.Intn(len(lines)))
		}
		if r.Intn(4) > 0 {
			slices.Sort(picked)
		}
		for _, at := range picked {
			s += lines[at]
		}
		if r.Intn(3) == 0 {
			cut := strings.LastIndex(s[:r.Intn(len(s))+1], "\n") + 1
			s = s[:cut] + odd[r.Intn(len(odd))] + s[cut:]
		}
		if checkParse(t, s) {
			good++
		}
	}
	if good < 3000 {
		t.Errorf("only %d strings are read", good)
	}
}

// P12.4, T3: random bytes, and strings of random records with some bytes of others.
func TestRandomBytes(t *testing.T) {
	r := rand.New(rand.NewSource(3))
	for i := 0; i < 8000 && !t.Failed(); i++ {
		b := make([]byte, r.Intn(60))
		for i := range b {
			b[i] = "packge nedyb-ful*\n\n\n0.0\xff\x00"[r.Intn(25)]
		}
		checkParse(t, string(b))
		checkParse(t, "package a 0.0.0\n"+string(b))
		s := textOf(grown(r))
		other := textOf(grown(r))
		from, to := r.Intn(len(s)), r.Intn(len(other))
		if i%2 == 0 {
			from, to = strings.Index(s[from:], "\n")+from+1, strings.Index(other[to:], "\n")+to+1
		}
		checkParse(t, s[:from]+other[to:])
	}
}

package mark

import (
	"fmt"
	"math"
	"math/rand"
	"slices"
	"strings"
	"testing"
	"time"
	"unsafe"

	"linchpin/api"
)

// expr is a second form of a marker's subtree: an operator, and a comparison or one
// or two operands.
type expr struct {
	op, key int
	text    string
	a, b    *expr
}

// nodes adds the nodes of x to l.
func (x *expr) nodes(l []api.Node) []api.Node {
	if x.op == api.Is {
		return append(l, api.Node{Op: api.Is, Key: x.key, Text: x.text})
	}
	l = x.a.nodes(l)
	n := api.Node{Op: x.op, A: len(l) - 1}
	if x.b != nil {
		l = x.b.nodes(l)
		n.B = len(l) - 1
	}
	return append(l, n)
}

// mark is the marker of x.
func (x *expr) mark() api.Mark {
	return api.Mark{Nodes: x.nodes(nil)}
}

// compare is the string of x, a comparison, with a sign.
func (x *expr) compare(sign string) string {
	return []string{"os", "arch", "abi"}[x.key] + sign + x.text
}

// within is the string s of x, in parentheses if its operator is one of ops.
func (x *expr) within(s string, ops ...int) string {
	if slices.Contains(ops, x.op) {
		return "( " + s + " )"
	}
	return s
}

// print is the string of x.
func (x *expr) print() string {
	switch x.op {
	case api.Is:
		return x.compare(" = ")
	case api.Not:
		if x.a.op == api.Is {
			return x.a.compare(" != ")
		}
		return "not " + x.a.within(x.a.print(), api.Both, api.One)
	case api.Both:
		return x.a.within(x.a.print(), api.One) + " and " + x.b.within(x.b.print(), api.Both, api.One)
	}
	return x.a.print() + " or " + x.b.within(x.b.print(), api.One)
}

// loose is a string of x with some parentheses and some `not` that it does not need.
func (x *expr) loose(r *rand.Rand) string {
	var s string
	switch x.op {
	case api.Is:
		s = x.compare(" = ")
	case api.Not:
		s = "not " + x.a.within(x.a.loose(r), api.Both, api.One)
		if x.a.op == api.Is && r.Intn(2) == 0 {
			s = x.a.compare(" != ")
		}
	case api.Both:
		s = x.a.within(x.a.loose(r), api.One) + " and " + x.b.within(x.b.loose(r), api.Both, api.One)
	case api.One:
		s = x.a.loose(r) + " or " + x.b.within(x.b.loose(r), api.One)
	}
	if r.Intn(4) == 0 {
		return "( " + s + " )"
	}
	return s
}

// value is the value of x, by tables.
func (x *expr) value(e api.Env) int {
	switch x.op {
	case api.Is:
		switch e.Vals[x.key] {
		case "":
			return 1
		case x.text:
			return 2
		}
		return 0
	case api.Not:
		return [3]int{2, 1, 0}[x.a.value(e)]
	case api.Both:
		return [3][3]int{{0, 0, 0}, {0, 1, 1}, {0, 1, 2}}[x.a.value(e)][x.b.value(e)]
	}
	return [3][3]int{{0, 1, 2}, {1, 1, 2}, {2, 2, 2}}[x.a.value(e)][x.b.value(e)]
}

// rest is what remains of x for e: nil if its value is known.
func (x *expr) rest(e api.Env) *expr {
	if x == nil || x.value(e) != 1 {
		return nil
	}
	if x.op == api.Is {
		return x
	}
	a, b := x.a.rest(e), x.b.rest(e)
	switch {
	case x.op == api.Not:
		return &expr{op: api.Not, a: a}
	case a == nil:
		return b
	case b == nil:
		return a
	}
	return &expr{op: x.op, a: a, b: b}
}

// all are all expressions of n nodes with the given comparisons.
func all(n int, leaves ...*expr) []*expr {
	if n == 1 {
		return leaves
	}
	var l []*expr
	if n > 1 {
		for _, a := range all(n-1, leaves...) {
			l = append(l, &expr{op: api.Not, a: a})
		}
	}
	for i := 1; i < n-1; i++ {
		for _, a := range all(i, leaves...) {
			for _, b := range all(n-1-i, leaves...) {
				l = append(l, &expr{op: api.Both, a: a, b: b}, &expr{op: api.One, a: a, b: b})
			}
		}
	}
	return l
}

// grow is a random expression of n nodes, with words of up to most bytes.
func grow(r *rand.Rand, n, most int) *expr {
	switch {
	case n == 1:
		words := []string{"a", "b", "c", "or", "and", "not", "os", "abi", "x86_64", "_", "0"}
		w := words[r.Intn(len(words))]
		return &expr{op: api.Is, key: r.Intn(3), text: strings.Repeat(w, 12)[:min(1+r.Intn(most), 12)]}
	case n == 2 || r.Intn(4) == 0:
		return &expr{op: api.Not, a: grow(r, n-1, most)}
	}
	i := 1 + r.Intn(n-2)
	return &expr{op: api.Both + r.Intn(2), a: grow(r, i, most), b: grow(r, n-1-i, most)}
}

// env is the platform of three values.
func env(os, arch, abi string) api.Env {
	return api.Env{Vals: [api.Keys]string{os, arch, abi}}
}

// envs are all platforms of some values.
func envs(values ...string) []api.Env {
	var l []api.Env
	for _, os := range values {
		for _, arch := range values {
			for _, abi := range values {
				l = append(l, env(os, arch, abi))
			}
		}
	}
	return l
}

// must is the marker whose string is s.
func must(t *testing.T, s string) api.Mark {
	t.Helper()
	m, err := Parse(s)
	if err != api.OK {
		t.Fatalf("Parse(%q): %v", s, err)
	}
	return m
}

// checkNot holds every function against a marker that is not valid.
func checkNot(t *testing.T, m api.Mark) {
	t.Helper()
	some := fmt.Sprintf("%.300s", fmt.Sprint(m.Nodes[:min(len(m.Nodes), 20)])) // it may be a long one
	if May(m) {
		t.Errorf("May(%s) is true", some)
	}
	if s := Print(m); s != "" {
		t.Errorf("Print(%s): %.60q", some, s)
	}
	for _, e := range []api.Env{{}, env("a", "a", "a"), env("b", "", "a"), env("?", "", "")} {
		if v := Eval(m, e); v != api.No {
			t.Errorf("Eval(%s, %q): %d", some, e.Vals, v)
		}
		if left, v := Under(m, e); v != api.No || len(left.Nodes) != 0 {
			t.Errorf("Under(%s, %q): %d nodes, %d", some, e.Vals, len(left.Nodes), v)
		}
	}
}

// checkError holds Parse against a string that it refuses.
func checkError(t *testing.T, s string, want api.Errno) {
	t.Helper()
	if m, err := Parse(s); err != want || len(m.Nodes) != 0 {
		t.Errorf("Parse(%.120q): %+v, %v; want %v", s, m, err, want)
	}
}

// checkParse holds Parse against a string of the marker with these nodes.
func checkParse(t *testing.T, s string, want []api.Node) {
	t.Helper()
	if m, err := Parse(s); err != api.OK || !slices.Equal(m.Nodes, want) {
		t.Errorf("Parse(%q): %+v, %v; want %+v", s, m, err, want)
	}
}

// checkExpr holds May, Print and Parse against x and reports whether x is valid.
func checkExpr(t *testing.T, x *expr) bool {
	t.Helper()
	m, s := x.mark(), x.print()
	if len(m.Nodes) > 15 || len(s) > 96 {
		checkNot(t, m)
		if len(s) > 96 {
			checkError(t, s, api.ErrLong)
		} else {
			checkError(t, s, api.ErrMark)
		}
		return false
	}
	if !May(m) {
		t.Errorf("May(%+v) is false", m)
	}
	if got := Print(m); got != s {
		t.Errorf("Print(%+v): %q; want %q", m, got, s)
	}
	checkParse(t, s, m.Nodes)
	return true
}

// P10.1: which platforms are valid.
func TestEnvMay(t *testing.T) {
	good := []string{"", "a", "linux", "x86_64", "_", "0", "00", "and", "or", "not", "abcdefghijkl", "____________"}
	bad := []string{" ", "A", "Linux", "a b", "a ", " a", "a-b", "a.b", "-", "?", "(", "=", "\x00", "a\x00", "\n", "a\n",
		"\u00e4", "a\u00e4", "\xff", "\u0430", "abcdefghijklm", strings.Repeat("a", 1<<20)}
	for key := range api.Keys {
		for _, s := range append(slices.Clone(good), bad...) {
			want := slices.Contains(good, s)
			for _, other := range []string{"", "a", "z_9"} {
				e := env(other, other, other)
				e.Vals[key] = s
				if EnvMay(e) != want {
					t.Errorf("EnvMay(%.20q) is not %v", e.Vals, want)
				}
			}
		}
	}
	if !EnvMay(api.Env{}) || EnvMay(env("?", "?", "a")) || EnvMay(env("?", "a", "?")) || EnvMay(env("a", "?", "?")) {
		t.Error("several values")
	}
}

// P10.1: which bytes and how many of them a platform's value may have.
func TestEnvBytes(t *testing.T) {
	for b := range 256 {
		c := string([]byte{byte(b)})
		want := strings.Contains("abcdefghijklmnopqrstuvwxyz0123456789_", c)
		for key := range api.Keys {
			for _, s := range []string{c, c + "a", "a" + c, "a" + c + "a"} {
				var e api.Env
				e.Vals[key] = s
				if EnvMay(e) != want {
					t.Errorf("EnvMay(%q) is not %v", e.Vals, want)
				}
			}
		}
	}
	for n := range 40 {
		for key := range api.Keys {
			var e api.Env
			e.Vals[key] = strings.Repeat("x", n)
			if EnvMay(e) != (n <= 12) {
				t.Errorf("EnvMay(%q) is not %v", e.Vals, n <= 12)
			}
		}
	}
}

// P10.1: the nodes and the strings of some markers, written out.
func TestTable(t *testing.T) {
	os := api.Node{Op: api.Is, Key: 0, Text: "linux"}
	arch := api.Node{Op: api.Is, Key: 1, Text: "x86_64"}
	abi := api.Node{Op: api.Is, Key: 2, Text: "gnu"}
	not := func(a int) api.Node { return api.Node{Op: api.Not, A: a} }
	both := func(a, b int) api.Node { return api.Node{Op: api.Both, A: a, B: b} }
	one := func(a, b int) api.Node { return api.Node{Op: api.One, A: a, B: b} }
	for _, x := range []struct {
		s string
		l []api.Node
	}{
		{"", nil},
		{"os = linux", []api.Node{os}},
		{"arch = x86_64", []api.Node{arch}},
		{"abi = gnu", []api.Node{abi}},
		{"os != linux", []api.Node{os, not(0)}},
		{"not os != linux", []api.Node{os, not(0), not(1)}},
		{"not not os != linux", []api.Node{os, not(0), not(1), not(2)}},
		{"os = linux and arch = x86_64", []api.Node{os, arch, both(0, 1)}},
		{"os = linux or arch = x86_64", []api.Node{os, arch, one(0, 1)}},
		{"os != linux and arch != x86_64", []api.Node{os, not(0), arch, not(2), both(1, 3)}},
		{"not ( os = linux and abi = gnu )", []api.Node{os, abi, both(0, 1), not(2)}},
		{"not ( os = linux or abi = gnu )", []api.Node{os, abi, one(0, 1), not(2)}},
		{"not not ( os = linux or abi = gnu )", []api.Node{os, abi, one(0, 1), not(2), not(3)}},
		{"os = linux and arch = x86_64 and abi = gnu", []api.Node{os, arch, both(0, 1), abi, both(2, 3)}},
		{"os = linux and ( arch = x86_64 and abi = gnu )", []api.Node{os, arch, abi, both(1, 2), both(0, 3)}},
		{"os = linux or arch = x86_64 or abi = gnu", []api.Node{os, arch, one(0, 1), abi, one(2, 3)}},
		{"os = linux or ( arch = x86_64 or abi = gnu )", []api.Node{os, arch, abi, one(1, 2), one(0, 3)}},
		{"os = linux and arch = x86_64 or abi = gnu", []api.Node{os, arch, both(0, 1), abi, one(2, 3)}},
		{"os = linux or arch = x86_64 and abi = gnu", []api.Node{os, arch, abi, both(1, 2), one(0, 3)}},
		{"( os = linux or arch = x86_64 ) and abi = gnu", []api.Node{os, arch, one(0, 1), abi, both(2, 3)}},
		{"os = linux and ( arch = x86_64 or abi = gnu )", []api.Node{os, arch, abi, one(1, 2), both(0, 3)}},
		{"not ( os = linux or abi != gnu ) and arch = x86_64",
			[]api.Node{os, abi, not(1), one(0, 2), not(3), arch, both(4, 5)}},
	} {
		m := api.Mark{Nodes: x.l}
		if !May(m) {
			t.Errorf("May(%+v) is false", m)
		}
		if s := Print(m); s != x.s {
			t.Errorf("Print(%+v): %q; want %q", m, s, x.s)
		}
		checkParse(t, x.s, x.l)
	}
}

// P10.1: strings that Print does not return, but Parse accepts.
func TestLooseTable(t *testing.T) {
	for printed, l := range map[string][]string{
		"os = a":  {"( os = a )", "( ( os = a ) )", "( ( ( ( os = a ) ) ) )"},
		"os != a": {"not os = a", "not ( os = a )", "not ( ( os = a ) )", "( not os = a )", "( os != a )"},
		"not os != a": {"not not os = a", "not ( os != a )", "not ( not os = a )", "( not os != a )",
			"not not ( os = a )", "not ( not ( os = a ) )"},
		"not not os != a": {"not not not os = a", "not ( not os != a )"},
		"os = a and arch = b": {"( os = a ) and arch = b", "os = a and ( arch = b )", "( os = a and arch = b )",
			"( ( os = a ) and ( arch = b ) )"},
		"os = a and arch = b and abi = c":                  {"( os = a and arch = b ) and abi = c", "( os = a and arch = b and abi = c )"},
		"os = a or arch = b or abi = c":                    {"( os = a or arch = b ) or abi = c", "( os = a or arch = b or abi = c )"},
		"os = a or arch = b and abi = c":                   {"os = a or ( arch = b and abi = c )"},
		"os = a and arch = b or abi = c":                   {"( os = a and arch = b ) or abi = c"},
		"os != a and arch = b":                             {"not os = a and arch = b", "( not os = a ) and arch = b"},
		"os != a or arch != b":                             {"not os = a or not arch = b"},
		"not ( os = a or arch = b )":                       {"not ( ( os = a or arch = b ) )", "( not ( os = a or arch = b ) )"},
		"( os = a or arch = b ) and ( abi = c or os = d )": {"( ( os = a or arch = b ) and ( abi = c or os = d ) )"},
		"os = and and arch = or or abi != not":             {"os = and and arch = or or not abi = not"},
		"os = os and arch = arch":                          {"( os = os ) and arch = arch"},
	} {
		m := must(t, printed)
		if s := Print(m); s != printed {
			t.Errorf("Print of Parse(%q): %q", printed, s)
		}
		for _, s := range l {
			checkParse(t, s, m.Nodes)
		}
	}
}

// P10.1: strings of no marker.
func TestNoStrings(t *testing.T) {
	for _, s := range []string{
		" ", "  ", "\n", "\x00", "x", "os", "=", "os =", "os = ", "os a", "os = = a", "= a", "os linux", "os = a b",
		" os = a", "os = a ", "os  = a", "os =  a", "os = a  and os = b", "os = a\n", "os\t= a", "os = a\tand os = b",
		"os=a", "os =a", "os= a", "os = a,os = b", "os = a, os = b", "os\u00a0= a", "os = a\x00",
		"cpu = a", "Os = a", "OS = a", "a = os", "key = a", "0 = a", "and = a", "or = a", "not = a", "( = a", " = a",
		"os == a", "os ! a", "os =! a", "os <> a", "os > a", "os in a", "os is a", "os not a", "os ~ a",
		"os = A", "os = a-b", "os = a.b", "os = abcdefghijklm", "os != abcdefghijklm", "os = \u00e4", "os = \xff", "os = -",
		"os = (", "os = )", "os = =", "os = !=", "os = ( a )", "( os ) = a", "( os = ) a", "os ( = a )",
		"os = a and", "os = a or", "and os = a", "or os = a", "and", "or", "not", "not not", "os = a not", "not and os = a",
		"os = a os = b", "os = a and and os = b", "os = a and or os = b", "os = a or or os = b", "os = a or and os = b",
		"os = a not os = b", "os = a and not", "os = a ( os = b )", "( os = a ) os = b", "( os = a ) ( os = b )",
		"(", ")", "()", "( )", "( ( ) )", "not ( )", "not (", "( not )", "( os = a", "os = a )", "( ( os = a )", "( os = a ) )",
		") os = a (", "(os = a)", "( os = a)", "(os = a )", "[ os = a ]", "{ os = a }", "( os = a and )", "( and os = a )",
		"os = a and ( )", "( ) and os = a", "( ) or ( )", "os = a and ( os = b", "os = a and os = b )", "os = a AND os = b",
		"os = a && os = b", "os = a & os = b", "os = a | os = b", "! os = a", "NOT os = a", "true", "os = a and true",
		"os = a xor os = b", "\xff", "os \xff a", "os = a \xff os = b",
	} {
		checkError(t, s, api.ErrMark)
	}
}

// P10.1: a string with one byte changed, left out or put in is no string, or that
// of a marker which is printed so.
func TestEveryByte(t *testing.T) {
	for _, s := range []string{"os = a and not ( arch != b or abi = c )", "( os = a or os = b ) and ( arch = _ or abi != 0 )"} {
		for i := range len(s) + 1 {
			for b := range 256 {
				l := []string{s[:i] + string([]byte{byte(b)}) + s[i:]}
				if i < len(s) {
					l = append(l, s[:i]+s[i+1:], s[:i]+string([]byte{byte(b)})+s[i+1:])
				}
				for _, changed := range l {
					checkSecond(t, changed)
				}
				if t.Failed() {
					return
				}
			}
		}
	}
}

// second reads the pieces of a string, of which each comparison is one, by cutting
// at the operators that bind least; nil: they are no marker's.
func second(l []string) *expr {
	deep, lastOr, lastAnd := 0, -1, -1
	for i, s := range l {
		switch {
		case s == "(":
			deep++
		case s == ")" && deep == 0:
			return nil
		case s == ")":
			deep--
		case s == "or" && deep == 0:
			lastOr = i
		case s == "and" && deep == 0:
			lastAnd = i
		}
	}
	if len(l) == 0 || deep > 0 {
		return nil
	}
	op, at := api.One, lastOr
	if at < 0 {
		op, at = api.Both, lastAnd
	}
	if at >= 0 {
		a, b := second(l[:at]), second(l[at+1:])
		if a == nil || b == nil {
			return nil
		}
		return &expr{op: op, a: a, b: b}
	}
	if l[0] == "not" {
		if a := second(l[1:]); a != nil {
			return &expr{op: api.Not, a: a}
		}
		return nil
	}
	if l[0] == "(" && l[len(l)-1] == ")" {
		return second(l[1 : len(l)-1])
	}
	if len(l) > 1 {
		return nil
	}
	return secondComparison(l[0])
}

// secondComparison reads a comparison.
func secondComparison(s string) *expr {
	for key, name := range []string{"os", "arch", "abi"} {
		for sign, op := range map[string]int{" = ": api.Is, " != ": api.Not} {
			text, ok := strings.CutPrefix(s, name+sign)
			if !ok || len(text) < 1 || len(text) > 12 || strings.Trim(text, "abcdefghijklmnopqrstuvwxyz0123456789_") != "" {
				continue
			}
			x := &expr{op: api.Is, key: key, text: text}
			if op == api.Not {
				return &expr{op: op, a: x}
			}
			return x
		}
	}
	return nil
}

// pieces are the words of s, each comparison as one.
func pieces(s string) []string {
	var l []string
	words := strings.Split(s, " ")
	for len(words) > 0 {
		n := 1
		if slices.Contains([]string{"os", "arch", "abi"}, words[0]) {
			n = min(3, len(words))
		}
		l = append(l, strings.Join(words[:n], " "))
		words = words[n:]
	}
	return l
}

// checkSecond holds Parse(s), s of at most 96 bytes and not empty, against second and
// reports whether s is the string of a marker.
func checkSecond(t *testing.T, s string) bool {
	t.Helper()
	x := second(pieces(s))
	if x == nil || len(x.nodes(nil)) > 15 {
		checkError(t, s, api.ErrMark)
		return false
	}
	checkParse(t, s, x.nodes(nil))
	return true
}

// P10.1: all strings of up to seven pieces.
func TestParseShort(t *testing.T) {
	level, found := []string{""}, 0
	for n := range 7 {
		var longer []string
		for _, s := range level {
			for _, piece := range []string{"os = a", "abi != b", "and", "or", "not", "(", ")"} {
				longer = append(longer, strings.TrimPrefix(s+" "+piece, " "))
			}
		}
		for _, s := range longer {
			if checkSecond(t, s) {
				found++
			}
			if t.Failed() {
				return // as thousands of strings would be told
			}
		}
		if n == 6 && found < 500 {
			t.Errorf("only %d strings are read", found)
		}
		level = longer
	}
}

// P10.1: random words.
func TestParseRandom(t *testing.T) {
	r := rand.New(rand.NewSource(1))
	words := []string{"os", "arch", "abi", "=", "!=", "a", "and", "or", "not", "(", ")", "", "A"}
	found := 0
	for i := 0; i < 200000 && !t.Failed(); i++ {
		// Comparisons make up most of it, so that some strings are those of markers.
		var l []string
		for range 1 + r.Intn(8) {
			if r.Intn(3) > 0 {
				l = append(l, words[r.Intn(3)], words[3+r.Intn(2)], words[5+r.Intn(4)])
			}
			l = append(l, words[r.Intn(len(words))])
		}
		if r.Intn(2) == 0 {
			l = l[:len(l)-1]
		}
		if s := strings.Join(l, " "); s != "" && len(s) <= 96 && checkSecond(t, s) {
			found++
		}
	}
	if found < 2000 {
		t.Errorf("only %d strings are read", found)
	}
}

// P10.1: all markers of up to seven nodes.
func TestAll(t *testing.T) {
	r := rand.New(rand.NewSource(2))
	for n := 1; n <= 7; n++ {
		for _, x := range all(n, &expr{op: api.Is, text: "a"}, &expr{op: api.Is, key: 1, text: "or"}) {
			if !checkExpr(t, x) {
				t.Errorf("%q is not valid", x.print())
			}
			for range 5 {
				if s := x.loose(r); len(s) <= 96 {
					checkParse(t, s, x.nodes(nil))
				}
			}
			if t.Failed() {
				return
			}
		}
	}
}

// P10.1: random markers, also with too many nodes or too long a string, and strings
// with more parentheses and `not` than they need, which may be too long themselves.
func TestRandom(t *testing.T) {
	r := rand.New(rand.NewSource(3))
	met, long := map[int]int{}, 0
	for i := 0; i < 40000 && !t.Failed(); i++ {
		x := grow(r, 1+r.Intn(18), 1+r.Intn(12))
		l := x.nodes(nil)
		if checkExpr(t, x) {
			met[len(l)]++
		}
		switch s := x.loose(r); {
		case len(s) > 96:
			checkError(t, s, api.ErrLong)
			long++
		case len(l) > 15:
			checkError(t, s, api.ErrMark)
		default:
			checkParse(t, s, l)
		}
	}
	for n := 1; n <= 15; n++ {
		if met[n] < 20 {
			t.Errorf("only %d markers of %d nodes", met[n], n)
		}
	}
	if long < 1000 {
		t.Errorf("only %d strings are too long", long)
	}
}

// P10.1: as many nodes as there may be, and more.
func TestNumberOfNodes(t *testing.T) {
	is := &expr{op: api.Is, key: 0, text: "a"}
	chains := map[int]*expr{api.Not: is, api.Both: is, api.One: is}
	for range 20 {
		for op, x := range chains {
			if n := len(x.nodes(nil)); checkExpr(t, x) != (n <= 15) && len(x.print()) <= 96 {
				t.Errorf("%d nodes: %v", n, May(x.mark()))
			}
			y := &expr{op: op, a: x}
			if op != api.Not {
				y.b = is
			}
			chains[op] = y
		}
	}
	checkError(t, strings.Repeat("not ", 15)+"os = a", api.ErrMark) // 66 bytes, 16 nodes
	checkError(t, strings.Repeat("not ", 14)+"os != a", api.ErrMark)
	checkError(t, "os = a"+strings.Repeat(" or os = a", 8), api.ErrMark) // 86 bytes, 17 nodes
	checkError(t, "not os = a"+strings.Repeat(" or os = a", 7), api.ErrMark)
	must(t, "os = a"+strings.Repeat(" or os = a", 7))
	must(t, strings.Repeat("not ", 13)+"os != a")
	checkNot(t, api.Mark{Nodes: make([]api.Node, 1<<20)})
	checkNot(t, api.Mark{Nodes: slices.Repeat([]api.Node{{Op: api.Is, Text: "a"}}, 1<<20)})
}

// P10.1: strings of as many bytes as there may be, and of more.
func TestLengths(t *testing.T) {
	for extra := range 40 {
		// The string of eight comparisons has 68 bytes and those of their words.
		var x *expr
		for i := range 8 {
			leaf := &expr{op: api.Is, text: strings.Repeat("w", 1+extra/8)}
			if i < extra%8 {
				leaf.text += "w"
			}
			if x == nil {
				x = leaf
				continue
			}
			x = &expr{op: api.One, a: x, b: leaf}
		}
		s := x.print()
		if len(s) != 76+extra || checkExpr(t, x) != (len(s) <= 96) {
			t.Errorf("%d bytes: May is %v", len(s), May(x.mark()))
		}
		// The same marker by longer strings.
		for n := range 6 {
			wide := strings.Repeat("( ", n) + s + strings.Repeat(" )", n)
			if len(wide) <= 96 {
				checkParse(t, wide, x.nodes(nil))
			} else {
				checkError(t, wide, api.ErrLong)
			}
		}
	}
	for n := range 20 {
		for _, x := range []string{" ", "x", "(", "\x00", "\xff", "os = a "} {
			s := strings.Repeat(x, 120)[:90+n]
			if n <= 6 {
				checkError(t, s, api.ErrMark)
			} else {
				checkError(t, s, api.ErrLong)
			}
		}
	}
	// What Print writes with fewer words than it is read from may be long, too.
	checkError(t, strings.Repeat("( ", 23)+"os = a"+strings.Repeat(" )", 23), api.ErrLong)
	checkParse(t, strings.Repeat("( ", 22)+"os = a"+strings.Repeat(" )", 22), []api.Node{{Op: api.Is, Text: "a"}})
}

// P10.1: nodes of no form, at every place of a marker.
func TestForms(t *testing.T) {
	x := must(t, "os = a and not ( arch != b or abi = c )").Nodes
	strange := []int{math.MinInt, -1 << 32, -2, -1, 0, 1, 2, 3, 4, 5, 6, 7, 8, 1 << 32, math.MaxInt}
	texts := []string{"", "a", "b", "A", " ", "a b", "(", "\xff", "abcdefghijkl", "abcdefghijklm", strings.Repeat("a", 1<<10)}
	for i := range x {
		var l []api.Node
		for _, n := range strange {
			for field := range 4 {
				changed := x[i]
				*[]*int{&changed.Op, &changed.A, &changed.B, &changed.Key}[field] = n
				l = append(l, changed)
			}
		}
		for _, s := range texts {
			changed := x[i]
			changed.Text = s
			l = append(l, changed)
		}
		for _, changed := range l {
			checkForm(t, x, i, changed)
		}
	}
}

// checkForm checks the marker with the nodes l in which node i is changed.
func checkForm(t *testing.T, l []api.Node, i int, changed api.Node) {
	t.Helper()
	old := l[i]
	m := api.Mark{Nodes: slices.Clone(l)}
	m.Nodes[i] = changed
	valid := changed == old
	switch changed.Op {
	case api.Is:
		valid = old.Op == api.Is && changed.A == 0 && changed.B == 0 && 0 <= changed.Key && changed.Key <= 2 &&
			secondComparison("os = "+changed.Text) != nil
	case api.Both, api.One:
		same := changed
		same.Op = old.Op
		valid = (old.Op == api.Both || old.Op == api.One) && same == old
	}
	if !valid {
		checkNot(t, m)
	} else if s := Print(m); !May(m) || s == "" || !slices.Equal(must(t, s).Nodes, m.Nodes) {
		t.Errorf("May(%+v): %v; Print: %q", m, May(m), s)
	}
}

// P10.1: of all lists of up to four nodes, the valid ones are those of a marker.
func TestAllLists(t *testing.T) {
	valid := map[string]bool{fmt.Sprint([]api.Node(nil)): true}
	for n := 1; n <= 4; n++ {
		for _, x := range all(n, &expr{op: api.Is, text: "a"}) {
			valid[fmt.Sprint(x.nodes(nil))] = true
		}
	}
	found := 0
	var check func(l []api.Node, n int)
	check = func(l []api.Node, n int) {
		if len(l) == n {
			if May(api.Mark{Nodes: l}) {
				found++
				if !valid[fmt.Sprint(l)] {
					t.Errorf("May(%+v) is true", l)
				}
			}
			return
		}
		check(append(l, api.Node{Op: api.Is, Text: "a"}), n)
		for a := -1; a <= min(n, 3); a++ {
			for b := -1; b <= min(n, 3); b++ {
				for _, op := range []int{api.Not, api.Both, api.One} {
					check(append(l, api.Node{Op: op, A: a, B: b}), n)
				}
			}
		}
	}
	for n := range 5 {
		check(make([]api.Node, 0, n), n)
	}
	if found != len(valid) {
		t.Errorf("%d lists are valid, not %d", found, len(valid))
	}
}

// P10.1: trees that are not one tree, or whose nodes stand in another order.
func TestNoTrees(t *testing.T) {
	a := api.Node{Op: api.Is, Text: "a"}
	not := func(a int) api.Node { return api.Node{Op: api.Not, A: a} }
	both := func(a, b int) api.Node { return api.Node{Op: api.Both, A: a, B: b} }
	for _, l := range [][]api.Node{
		{{}}, {not(-1)}, {not(0)}, {both(-1, -1)}, {both(0, 0)}, {both(-2, -1)}, // no operand
		{a, both(-1, 0)}, {a, both(0, 0)}, {a, both(1, 0)}, {a, not(0), both(-1, 1)}, {a, not(0), both(0, 1)}, // one operand
		{a, a}, {a, a, a}, {a, a, not(1)}, {a, a, a, both(1, 2)}, {a, not(0), a}, {a, a, both(0, 1), a}, // several trees
		{a, a, not(0)}, {a, a, both(1, 0)}, {a, a, a, both(0, 2)}, {a, a, a, both(0, 1)}, {a, not(1)}, // others than the nearest
		{a, a, not(1), both(0, 1)}, {a, a, not(1), both(1, 2)}, {a, a, both(0, 1), a, both(1, 3)}, {a, a, both(0, 1), a, both(0, 3)},
		{not(1), a}, {both(1, 2), a, a}, {a, both(0, 2), a}, {not(0), a}, // operands behind
		{a, a, both(0, 1), not(1)}, {a, a, both(0, 1), both(0, 2)}, {a, not(0), not(0)}, // operands of two
	} {
		checkNot(t, api.Mark{Nodes: l})
	}
}

// P10.2: every operator with every value.
func TestEvalTable(t *testing.T) {
	for _, x := range []struct {
		s    string
		e    api.Env
		want int
	}{
		{"", env("", "", ""), api.Yes}, {"", env("a", "b", "c"), api.Yes},
		{"os = a", env("a", "", ""), api.Yes}, {"os = a", env("b", "", ""), api.No}, {"os = a", env("", "", ""), api.Maybe},
		{"os = a", env("", "a", "a"), api.Maybe}, {"os = a", env("aa", "a", "a"), api.No}, {"os = aa", env("a", "", ""), api.No},
		{"arch = a", env("b", "a", "b"), api.Yes}, {"arch = a", env("a", "b", "a"), api.No}, {"arch = a", env("a", "", "a"), api.Maybe},
		{"abi = a", env("b", "b", "a"), api.Yes}, {"abi = a", env("a", "a", "b"), api.No}, {"abi = a", env("a", "a", ""), api.Maybe},
		{"os != a", env("a", "", ""), api.No}, {"os != a", env("b", "", ""), api.Yes}, {"os != a", env("", "", ""), api.Maybe},
		{"not os != a", env("a", "", ""), api.Yes}, {"not os != a", env("b", "", ""), api.No}, {"not os != a", env("", "", ""), api.Maybe},
		{"os = a and arch = a", env("b", "b", ""), api.No}, {"os = a or arch = a", env("b", "b", ""), api.No},
		{"os = a and arch = a", env("b", "", ""), api.No}, {"os = a or arch = a", env("b", "", ""), api.Maybe},
		{"os = a and arch = a", env("b", "a", ""), api.No}, {"os = a or arch = a", env("b", "a", ""), api.Yes},
		{"os = a and arch = a", env("", "b", ""), api.No}, {"os = a or arch = a", env("", "b", ""), api.Maybe},
		{"os = a and arch = a", env("", "", ""), api.Maybe}, {"os = a or arch = a", env("", "", ""), api.Maybe},
		{"os = a and arch = a", env("", "a", ""), api.Maybe}, {"os = a or arch = a", env("", "a", ""), api.Yes},
		{"os = a and arch = a", env("a", "b", ""), api.No}, {"os = a or arch = a", env("a", "b", ""), api.Yes},
		{"os = a and arch = a", env("a", "", ""), api.Maybe}, {"os = a or arch = a", env("a", "", ""), api.Yes},
		{"os = a and arch = a", env("a", "a", ""), api.Yes}, {"os = a or arch = a", env("a", "a", ""), api.Yes},
		{"os = a or os != a", env("", "", ""), api.Maybe}, {"os = a and os != a", env("", "", ""), api.Maybe},
		{"os = a and os = b", env("", "", ""), api.Maybe}, {"os = a or os != a", env("b", "", ""), api.Yes},
		{"not ( os = a and arch = a )", env("b", "", ""), api.Yes}, {"not ( os = a or arch = a )", env("b", "", ""), api.Maybe},
		{"os = a or arch = a and abi = a", env("a", "b", "b"), api.Yes}, {"( os = a or arch = a ) and abi = a", env("a", "b", "b"), api.No},
	} {
		if v := Eval(must(t, x.s), x.e); v != x.want {
			t.Errorf("Eval(%q, %q): %d; want %d", x.s, x.e.Vals, v, x.want)
		}
	}
	if api.No != 0 || api.Maybe != 1 || api.Yes != 2 {
		t.Error("the values are not 0, 1 and 2")
	}
}

// P10.2 and P10.3: a platform that is not valid, also where no node compares its key.
func TestEvalNoEnv(t *testing.T) {
	for _, s := range []string{"", "os = a", "os != a", "not os != a", "os = a or os != a", "arch = a", "abi != a"} {
		m := must(t, s)
		for _, bad := range []string{"A", "?", " ", "a b", "abcdefghijklm", "\xff"} {
			for key := range api.Keys {
				for _, other := range []string{"", "a", "b"} {
					e := env(other, other, other)
					e.Vals[key] = bad
					if v := Eval(m, e); v != api.No {
						t.Errorf("Eval(%q, %q): %d", s, e.Vals, v)
					}
					if left, v := Under(m, e); v != api.No || len(left.Nodes) != 0 {
						t.Errorf("Under(%q, %q): %+v, %d", s, e.Vals, left, v)
					}
				}
			}
		}
	}
}

// P10.3: what remains of some markers.
func TestUnderTable(t *testing.T) {
	for _, x := range []struct {
		s    string
		e    api.Env
		want int
		left string
	}{
		{"", env("", "", ""), api.Yes, ""}, {"", env("a", "", ""), api.Yes, ""},
		{"os = a", env("a", "", ""), api.Yes, ""}, {"os = a", env("b", "", ""), api.No, ""}, {"os = a", env("", "a", "b"), api.Maybe, "os = a"},
		{"os != a", env("a", "", ""), api.No, ""}, {"os != a", env("b", "", ""), api.Yes, ""}, {"os != a", env("", "", ""), api.Maybe, "os != a"},
		{"os = a and arch = b", env("a", "", ""), api.Maybe, "arch = b"}, {"os = a and arch = b", env("", "b", ""), api.Maybe, "os = a"},
		{"os = a or arch = b", env("b", "", ""), api.Maybe, "arch = b"}, {"os = a or arch = b", env("", "a", ""), api.Maybe, "os = a"},
		{"os = a and arch = b", env("", "", "c"), api.Maybe, "os = a and arch = b"},
		{"os = a or os != a", env("", "a", ""), api.Maybe, "os = a or os != a"}, // nothing is known, though it is always so
		{"os = a or os = a", env("", "", ""), api.Maybe, "os = a or os = a"},
		{"not ( os = a and arch = b )", env("a", "", ""), api.Maybe, "arch != b"},
		{"not ( os = a and arch != b )", env("a", "", ""), api.Maybe, "not arch != b"},
		{"not not ( os = a or arch = b )", env("b", "", ""), api.Maybe, "not arch != b"},
		{"not not not os != a", env("", "", ""), api.Maybe, "not not not os != a"},
		{"os = a and arch = b and abi = c", env("", "b", ""), api.Maybe, "os = a and abi = c"},
		{"os = a and ( arch = b and abi = c )", env("", "b", ""), api.Maybe, "os = a and abi = c"},
		{"os = a and ( arch = b and abi = c )", env("a", "", ""), api.Maybe, "arch = b and abi = c"},
		{"os = a and ( arch = b or abi = c )", env("a", "", ""), api.Maybe, "arch = b or abi = c"},
		{"abi = d or os = a and ( arch = b or abi = c )", env("a", "", ""), api.Maybe, "abi = d or ( arch = b or abi = c )"},
		{"os = d and ( arch = b and os = a or abi = c )", env("", "", "d"), api.Maybe, "os = d and ( arch = b and os = a )"},
		{"( os = a or arch = b ) and abi = c", env("b", "", "c"), api.Maybe, "arch = b"},
		{"( os = a or arch = b ) and abi = c and arch = d", env("", "", "c"), api.Maybe, "( os = a or arch = b ) and arch = d"},
		// A part whose value is known goes as a whole, with what is not known within.
		{"abi = c and ( arch = b or os = a )", env("a", "", ""), api.Maybe, "abi = c"},
		{"( arch = b or os = a ) and abi = c", env("a", "", ""), api.Maybe, "abi = c"},
		{"abi = c or arch = b and os = a", env("b", "", ""), api.Maybe, "abi = c"},
		{"not ( arch = b and os = a ) and abi = c", env("b", "", ""), api.Maybe, "abi = c"},
	} {
		left, v := Under(must(t, x.s), x.e)
		if v != x.want || Print(left) != x.left || len(left.Nodes) > 0 != (x.left != "") || !slices.Equal(left.Nodes, must(t, x.left).Nodes) {
			t.Errorf("Under(%q, %q): %q, %d; want %q, %d", x.s, x.e.Vals, Print(left), v, x.left, x.want)
		}
	}
}

// checkValues holds Eval and Under of x, which is valid, against a second
// computation, for e and for the platforms that e may turn out to be.
func checkValues(t *testing.T, x *expr, e api.Env, others []api.Env) {
	t.Helper()
	m, want := x.mark(), x.value(e)
	if v := Eval(m, e); v != want {
		t.Fatalf("Eval(%q, %q): %d; want %d", x.print(), e.Vals, v, want)
	}
	left, v := Under(m, e)
	var nodes []api.Node
	if want == api.Maybe {
		nodes = x.rest(e).nodes(nil)
	}
	if v != want || !slices.Equal(left.Nodes, nodes) || !May(left) {
		t.Fatalf("Under(%q, %q): %+v, %d; want %+v, %d", x.print(), e.Vals, left, v, nodes, want)
	}
	for _, f := range others {
		both := e
		apart := true
		for key, value := range f.Vals {
			apart = apart && (value == "" || e.Vals[key] == "")
			both.Vals[key] += value
		}
		if !apart {
			continue
		}
		now := want
		if want == api.Maybe {
			now = Eval(left, f)
		}
		if got := Eval(m, both); got != now {
			t.Fatalf("Eval(%q, %q): %d; that of what %q leaves, for %q: %d", x.print(), both.Vals, got, e.Vals, f.Vals, now)
		}
	}
}

// P10.2, P10.3, P10.4: all markers of up to six nodes for all platforms of some values.
func TestValuesAll(t *testing.T) {
	l := envs("", "a", "b")
	for n := 1; n <= 6; n++ {
		for _, x := range all(n, &expr{op: api.Is, text: "a"}, &expr{op: api.Is, key: 1, text: "b"}) {
			for _, e := range l {
				checkValues(t, x, e, l)
			}
		}
	}
}

// P10.2, P10.3, P10.4: random markers for all platforms of some values.
func TestValuesRandom(t *testing.T) {
	r := rand.New(rand.NewSource(4))
	l := envs("", "a", "b", "c")
	met, maybe := 0, 0
	for met < 2000 {
		x := grow(r, 1+r.Intn(15), 1)
		if !May(x.mark()) {
			continue
		}
		met++
		for range 12 {
			e := l[r.Intn(len(l))]
			checkValues(t, x, e, l)
			if x.value(e) == api.Maybe && len(x.rest(e).nodes(nil)) < len(x.nodes(nil)) {
				maybe++
			}
		}
	}
	if maybe < 2000 {
		t.Errorf("only %d markers become smaller", maybe)
	}
}

// P10.3: a marker whose string is as long as it may be remains valid.
func TestUnderLong(t *testing.T) {
	r := rand.New(rand.NewSource(5))
	l := envs("", "a")
	met := 0
	for met < 3000 {
		x := grow(r, 8+r.Intn(8), 1+r.Intn(12))
		if s := x.print(); len(s) > 96 || len(s) < 90 {
			continue
		}
		met++
		for _, e := range l {
			checkValues(t, x, e, nil)
		}
	}
}

// apart reports whether no two of the texts share memory.
func apart(texts []string) bool {
	for i, a := range texts {
		for _, b := range texts[:i] {
			if a == "" || b == "" {
				continue
			}
			from, other := uintptr(unsafe.Pointer(unsafe.StringData(a))), uintptr(unsafe.Pointer(unsafe.StringData(b)))
			if from < other+uintptr(len(b)) && other < from+uintptr(len(a)) {
				return false
			}
		}
	}
	return true
}

// R4 for P10.1 and P10.3: results are new memory, and arguments stay as they are,
// with what lies behind them.
func TestMemory(t *testing.T) {
	s := strings.Clone("os = abc and not ( arch != def or abi = abc )")
	m, again := must(t, s), must(t, s)
	texts := []string{s}
	for _, l := range [][]api.Node{m.Nodes, again.Nodes} {
		for _, n := range l {
			texts = append(texts, n.Text)
		}
	}
	left, _ := Under(m, env("abc", "", ""))
	same, _ := Under(m, api.Env{})
	for _, l := range [][]api.Node{left.Nodes, same.Nodes} {
		if len(l) == 0 {
			t.Fatal("nothing is left")
		}
		for _, n := range l {
			texts = append(texts, n.Text)
		}
	}
	if !apart(append(texts, Print(m), Print(m), Print(again))) {
		t.Error("two texts share memory")
	}
	if &same.Nodes[0] == &m.Nodes[0] || &again.Nodes[0] == &m.Nodes[0] {
		t.Error("two lists share memory")
	}
	whole := append(slices.Clone(m.Nodes), api.Node{Op: 7, Text: "behind"}, api.Node{Op: 8})
	was := slices.Clone(whole)
	part := api.Mark{Nodes: whole[:len(m.Nodes)]}
	for _, e := range envs("", "abc", "def") {
		left, _ := Under(part, e)
		for i := range left.Nodes {
			left.Nodes[i] = api.Node{}
		}
		if !May(part) || Print(part) != s || Eval(part, e) != Eval(m, e) || !slices.Equal(whole, was) {
			t.Fatalf("behind Under for %q: %+v", e.Vals, whole)
		}
	}
}

// R5 for P10.1 to P10.3: several goroutines may call the functions at the same time,
// also with one marker.
func TestTogether(t *testing.T) {
	const s = "os = a and not ( arch != b or abi = c )"
	m, e := must(t, s), env("a", "b", "")
	wrong := make(chan string)
	for range 8 {
		go func() {
			var told string
			for range 300 {
				again, err := Parse(s)
				left, v := Under(m, e)
				if err != api.OK || Print(again) != s || Print(m) != s || !May(m) || !EnvMay(e) ||
					Eval(m, e) != api.Maybe || v != api.Maybe || Print(left) != "abi != c" {
					told = "a result depends on other calls"
				}
			}
			wrong <- told
		}()
	}
	for range 8 {
		if told := <-wrong; told != "" {
			t.Error(told)
		}
	}
}

// R1 for P10.1 to P10.3: arguments of any length and any bytes.
func TestLong(t *testing.T) {
	start := time.Now()
	for _, x := range []string{"(", "( ", "not ", "os = a or ", " ", "a", "\x00", "\xff"} {
		checkError(t, strings.Repeat(x, 1<<22), api.ErrLong)
		checkError(t, strings.Repeat(x, 96)[:96], api.ErrMark)
	}
	long := strings.Repeat("a", 1<<24)
	checkNot(t, api.Mark{Nodes: []api.Node{{Op: api.Is, Text: long}}})
	if e := env(long, long, long); EnvMay(e) || Eval(api.Mark{}, e) != api.No {
		t.Error("a long value is a word")
	}
	checkNot(t, api.Mark{Nodes: make([]api.Node, 1<<22)})
	r := rand.New(rand.NewSource(6))
	for i := 0; i < 200000 && !t.Failed(); i++ {
		b := make([]byte, 1+r.Intn(96))
		for i := range b {
			b[i] = " os=!arbinot()dc_0\n\xff"[r.Intn(20)]
		}
		checkSecond(t, string(b))
	}
	if d := time.Since(start); d > 20*time.Second {
		t.Errorf("that took %v", d)
	}
}

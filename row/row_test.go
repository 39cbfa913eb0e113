package row

import (
	"math"
	"math/rand"
	"slices"
	"strings"
	"testing"
	"unsafe"

	"linchpin/api"
	"linchpin/cut"
)

// few are three versions, each of which is less than the next one.
var few = []api.Version{{Pre: "0"}, {Major: 1, Pre: "rc.1"}, {Major: 1}}

// many are more of them.
var many = []api.Version{
	{Pre: "0"}, {Pre: "2"}, {Pre: "10"}, {Pre: "a.b.c.d"}, {}, {Patch: 1},
	{Minor: 9999, Patch: 9999}, {Major: 1, Pre: "0"}, {Major: 1, Pre: "rc.9"},
	{Major: 1, Pre: "rc.10"}, {Major: 1}, {Major: 10},
	{Major: 9999, Minor: 9999, Patch: 9999, Pre: "zzzzzzzz"},
	{Major: 9999, Minor: 9999, Patch: 9999},
}

// between are, for few, the versions that are tested: each with its place, that
// of the segment (of the cuts of few) that it lies in.
var between = []struct {
	v     api.Version
	place int
}{
	{api.Version{Pre: "0"}, 1}, {api.Version{Pre: "0", Build: "b"}, 1},
	{api.Version{Pre: "0.0"}, 2}, {api.Version{Pre: "1"}, 2},
	{api.Version{}, 2}, {api.Version{Build: "0.z"}, 2},
	{api.Version{Major: 1, Pre: "0"}, 2}, {api.Version{Major: 1, Pre: "rc.0"}, 2},
	{api.Version{Major: 1, Pre: "rc.1"}, 3},
	{api.Version{Major: 1, Pre: "rc.1", Build: "1"}, 3},
	{api.Version{Major: 1, Pre: "rc.1.0"}, 4}, {api.Version{Major: 1, Pre: "z"}, 4},
	{api.Version{Major: 1}, 5}, {api.Version{Major: 1, Build: "a-b"}, 5},
	{api.Version{Major: 1, Patch: 1, Pre: "0"}, 6}, {api.Version{Major: 2}, 6},
	{api.Version{Major: 9999, Minor: 9999, Patch: 9999, Build: "z"}, 6},
}

// wrong are versions that are not valid.
var wrong = []api.Version{
	{Major: -1}, {Minor: 10000}, {Patch: math.MinInt64}, {Major: math.MaxInt64},
	{Pre: "01"}, {Pre: "."}, {Pre: "A"}, {Major: 1, Build: "\xff"},
	{Pre: "123456789"}, {Pre: "a.b.c.d.e"}, {Major: 1, Build: "+"},
}

// notCuts are cuts that are not valid.
var notCuts = []api.Cut{
	{End: 2}, {End: -2}, {End: math.MaxInt64}, {End: math.MinInt64},
	{End: 1 << 32}, {End: 1, After: true}, {End: -1, After: true},
	{End: 1, V: api.Version{Major: 1}}, {End: -1, V: api.Version{Pre: "0"}},
	{V: api.Version{Major: 1, Build: "b"}}, {V: api.Version{Major: -1}},
	{V: api.Version{Patch: 10000}, After: true}, {V: api.Version{Pre: "01"}},
	{V: api.Version{Pre: "\x00"}, After: true},
}

// cuts are the two ends and the cuts beside some versions, each of which is
// before the next one. The segment with the place i is that from the cut with
// the place i to the next one.
func cuts(versions []api.Version) []api.Cut {
	l := []api.Cut{{End: -1}}
	for _, v := range versions {
		l = append(l, api.Cut{V: v}, api.Cut{V: v, After: true})
	}
	return append(l, api.Cut{End: 1})
}

// segments tells which segments lie within a row.
type segments []bool

// all are the segments with the bits of n.
func all(n, size int) segments {
	s := make(segments, size)
	for i := range s {
		s[i] = n>>i&1 == 1
	}
	return s
}

// some are segments of which about share of 8 lie within a row.
func some(r *rand.Rand, share, size int) segments {
	s := make(segments, size)
	for i := range s {
		s[i] = r.Intn(8) < share
	}
	return s
}

// row is the valid row of the segments of some cuts.
func (s segments) row(c []api.Cut) []api.Span {
	var l []api.Span
	for i, in := range s {
		switch {
		case !in:
		case i > 0 && s[i-1]:
			l[len(l)-1].To = c[i+1]
		default:
			l = append(l, api.Span{From: c[i], To: c[i+1]})
		}
	}
	return l
}

// each are the segments for which f holds, of what a and b say of them.
func each(a, b segments, f func(a, b bool) bool) segments {
	s := make(segments, len(a))
	for i := range s {
		s[i] = f(a[i], b[i])
	}
	return s
}

func or(a, b bool) bool  { return a || b }
func and(a, b bool) bool { return a && b }
func not(a, _ bool) bool { return !a }

// spans are all spans of which both cuts are some cuts; none of them is valid
// unless its From is before its To.
func spans(c []api.Cut) []api.Span {
	var l []api.Span
	for _, from := range c {
		for _, to := range c {
			l = append(l, api.Span{From: from, To: to})
		}
	}
	return l
}

// lists calls do with every list of up to three of some spans.
func lists(of []api.Span, do func(l []api.Span)) {
	do(nil)
	do([]api.Span{})
	for _, x := range of {
		do([]api.Span{x})
		for _, y := range of {
			do([]api.Span{x, y})
			for _, z := range of {
				do([]api.Span{x, y, z})
			}
		}
	}
}

// checkNot holds every function against a list that is not a valid row.
func checkNot(t *testing.T, l []api.Span) {
	t.Helper()
	if May(l) {
		t.Errorf("May(%+v) is true", l)
	}
	for _, x := range between {
		if Has(l, x.v) {
			t.Errorf("Has(%+v, %+v) is true", l, x.v)
		}
	}
	if r := Not(l); r != nil {
		t.Errorf("Not(%+v): %+v", l, r)
	}
	whole := []api.Span{{From: api.Cut{End: -1}, To: api.Cut{End: 1}}}
	for _, m := range [][]api.Span{nil, whole, {{To: api.Cut{End: 1}}}, l} {
		if r := Or(l, m); r != nil {
			t.Errorf("Or(%+v, %+v): %+v", l, m, r)
		}
		if r := Or(m, l); r != nil {
			t.Errorf("Or(%+v, %+v): %+v", m, l, r)
		}
		if r := And(l, m); r != nil {
			t.Errorf("And(%+v, %+v): %+v", l, m, r)
		}
		if r := And(m, l); r != nil {
			t.Errorf("And(%+v, %+v): %+v", m, l, r)
		}
		if Within(l, m) || Within(m, l) {
			t.Errorf("%+v lies within %+v, or the other way round", l, m)
		}
	}
}

// P4.1: all lists of up to three spans, of which some are not valid, are out of
// their order, overlap or are adjacent.
func TestMay(t *testing.T) {
	c := cuts(few[:2])[1:]
	good := 0
	lists(spans(c), func(l []api.Span) {
		last, want := -1, true
		for _, s := range l {
			from, to := slices.Index(c, s.From), slices.Index(c, s.To)
			want = want && last < from && from < to
			last = to
		}
		if got := May(l); got != want {
			t.Errorf("May(%+v): %v", l, got)
		}
		if want {
			good++
		}
	})
	if want := 2 + 10 + 5; good != want { // of none, of one, of two spans
		t.Errorf("%d lists are valid rows, not %d", good, want)
	}
}

// P4.1, P4.2, P4.3: lists of valid spans that are not valid rows, and lists
// with a span that is not valid.
func TestNotRows(t *testing.T) {
	c := cuts(few)
	n := 0
	lists(spans(c[2:6]), func(l []api.Span) {
		if !May(l) && n%5 == 0 {
			checkNot(t, l)
		}
		n++
	})
	for _, bad := range notCuts {
		for _, s := range []api.Span{
			{From: bad, To: c[7]}, {From: bad, To: c[3]}, {From: c[0], To: bad},
			{From: c[3], To: bad}, {From: bad, To: bad},
		} {
			checkNot(t, []api.Span{s})
			checkNot(t, []api.Span{{From: c[0], To: c[1]}, s})
			checkNot(t, []api.Span{s, {From: c[5], To: c[6]}})
			checkNot(t, []api.Span{{From: c[0], To: c[1]}, s, {From: c[5], To: c[7]}})
		}
	}
}

// P4.1: all rows of the cuts of a few versions, and versions at and between
// these cuts.
func TestHas(t *testing.T) {
	c := cuts(few)
	for n := range 1 << (len(c) - 1) {
		in := all(n, len(c)-1)
		l := in.row(c)
		for _, x := range between {
			if got := Has(l, x.v); got != in[x.place] {
				t.Errorf("Has(%+v, %+v): %v", l, x.v, got)
			}
		}
		for _, v := range wrong {
			if Has(l, v) {
				t.Errorf("Has(%+v, %+v) is true", l, v)
			}
		}
	}
}

// P4.1: all lists of up to three valid spans.
func TestMake(t *testing.T) {
	c := cuts(few[:2])
	valid := slices.DeleteFunc(spans(c), func(s api.Span) bool { return !cut.SpanMay(s) })
	lists(valid, func(l []api.Span) { checkMake(t, c, l) })
}

// checkMake holds Make against a list of valid spans, whose cuts are some of c.
func checkMake(t *testing.T, c []api.Cut, l []api.Span) {
	t.Helper()
	in := make(segments, len(c)-1)
	for _, s := range l {
		for i := slices.Index(c, s.From); c[i] != s.To; i++ {
			in[i] = true
		}
	}
	was := slices.Clone(l)
	got, ok := Make(l)
	if !ok || !slices.Equal(got, in.row(c)) || !May(got) {
		t.Errorf("Make(%+v): %+v, %v", l, got, ok)
	}
	if !slices.Equal(l, was) {
		t.Errorf("Make(%+v) makes it %+v", was, l)
	}
}

// P4.1: longer lists, in any order.
func TestMakeLong(t *testing.T) {
	r := rand.New(rand.NewSource(41))
	c := cuts(many)
	for range 2000 {
		var l []api.Span
		for range r.Intn(20) {
			from := r.Intn(len(c) - 1)
			to := from + 1 + r.Intn(min(3, len(c)-1-from))
			l = append(l, api.Span{From: c[from], To: c[to]})
		}
		checkMake(t, c, l)
	}
}

// P4.1: Make returns false if a span is not valid, wherever it stands.
func TestMakeNot(t *testing.T) {
	c := cuts(few)
	good := all(0b0110101, len(c)-1).row(c)
	bad := []api.Span{
		{}, {From: c[3], To: c[3]}, {From: c[4], To: c[3]}, {From: c[7], To: c[0]},
		{From: c[0], To: c[0]}, {From: c[7], To: c[7]},
	}
	for _, x := range notCuts {
		bad = append(bad,
			api.Span{From: x, To: c[7]}, api.Span{From: c[0], To: x}, api.Span{From: x, To: x})
	}
	for _, s := range bad {
		if l, ok := Make([]api.Span{s}); ok || l != nil {
			t.Errorf("Make of %+v alone: %+v, %v", s, l, ok)
		}
		for i := range len(good) + 1 {
			l := slices.Insert(slices.Clone(good), i, s)
			if got, ok := Make(l); ok || got != nil {
				t.Errorf("Make(%+v): %+v, %v", l, got, ok)
			}
		}
	}
}

// checkTwo holds the functions of two rows against what the segments say.
func checkTwo(t *testing.T, c []api.Cut, x, y segments) {
	t.Helper()
	a, b := x.row(c), y.row(c)
	both := each(x, y, and)
	for _, l := range []struct {
		name string
		got  []api.Span
		want segments
	}{
		{"Or", Or(a, b), each(x, y, or)},
		{"And", And(a, b), both},
		{"Not", Not(a), each(x, y, not)},
	} {
		if !slices.Equal(l.got, l.want.row(c)) || !May(l.got) {
			t.Errorf("%s(%+v, %+v): %+v", l.name, a, b, l.got)
		}
	}
	if got := Within(a, b); got != slices.Equal(both, x) {
		t.Errorf("Within(%+v, %+v): %v", a, b, got)
	}
}

// P4.2, P4.3: all pairs of rows of the cuts of a few versions.
func TestPairs(t *testing.T) {
	c := cuts(few)
	size := len(c) - 1
	for n := range 1 << size {
		for m := range 1 << size {
			checkTwo(t, c, all(n, size), all(m, size))
		}
	}
}

// P4.2, P4.3: rows of more spans, a part of them within one another.
func TestLongPairs(t *testing.T) {
	r := rand.New(rand.NewSource(42))
	c := cuts(many)
	size := len(c) - 1
	for range 2000 {
		a, b := some(r, r.Intn(9), size), some(r, r.Intn(9), size)
		checkTwo(t, c, a, b)
		checkTwo(t, c, each(a, b, and), b)
		checkTwo(t, c, a, each(a, b, or))
	}
}

// P4.2, P4.3: the empty row, which may be nil or not, and the row of all.
func TestEnds(t *testing.T) {
	none := []api.Span{}
	whole := []api.Span{{From: api.Cut{End: -1}, To: api.Cut{End: 1}}}
	for _, empty := range [][]api.Span{nil, none} {
		if !May(empty) || Has(empty, api.Version{}) {
			t.Error("the empty row is not valid, or not empty")
		}
		if !slices.Equal(Not(empty), whole) || len(Not(whole)) != 0 {
			t.Errorf("Not: %+v, %+v", Not(empty), Not(whole))
		}
		if !slices.Equal(Or(empty, whole), whole) || len(And(whole, empty)) != 0 {
			t.Errorf("Or, And: %+v, %+v", Or(empty, whole), And(whole, empty))
		}
		if len(Or(empty, none)) != 0 || len(And(empty, nil)) != 0 {
			t.Error("something lies within empty rows")
		}
		if !Within(empty, none) || !Within(none, empty) || !Within(empty, whole) {
			t.Error("the empty row is not within a row")
		}
		if Within(whole, empty) {
			t.Error("the row of all is within the empty row")
		}
		if l, ok := Make(empty); len(l) != 0 || !ok {
			t.Errorf("Make of no spans: %+v, %v", l, ok)
		}
	}
}

// P4.2: segments without a version, at both ends of the order of versions, are
// segments as well.
func TestSegmentsWithoutVersions(t *testing.T) {
	low, high := api.Cut{End: -1}, api.Cut{End: 1}
	first, last := few[0], many[len(many)-1]
	below := []api.Span{{From: low, To: api.Cut{V: first}}}
	above := []api.Span{{From: api.Cut{V: last, After: true}, To: high}}
	middle := []api.Span{{From: api.Cut{V: first}, To: api.Cut{V: last, After: true}}}
	outside := []api.Span{below[0], above[0]}
	if got := Not(middle); !slices.Equal(got, outside) {
		t.Errorf("Not(%+v): %+v", middle, got)
	}
	if got := Not(outside); !slices.Equal(got, middle) {
		t.Errorf("Not(%+v): %+v", outside, got)
	}
	if got := Or(below, above); !slices.Equal(got, outside) {
		t.Errorf("Or(%+v, %+v): %+v", below, above, got)
	}
	whole := []api.Span{{From: low, To: high}}
	if got := And(whole, below); !slices.Equal(got, below) || Within(whole, middle) {
		t.Errorf("And(%+v, %+v): %+v", whole, below, got)
	}
	// No version lies between these two cuts, but they are not the same cut.
	two := []api.Span{
		{From: low, To: api.Cut{V: api.Version{Pre: "a"}, After: true}},
		{From: api.Cut{V: api.Version{Pre: "a.0"}}, To: high},
	}
	if got, ok := Make(two); !ok || !slices.Equal(got, two) {
		t.Errorf("Make(%+v): %+v, %v", two, got, ok)
	}
}

// P4.4: what Has says of results follows from what it says of arguments, also
// of arguments that are not valid rows.
func TestConsequence(t *testing.T) {
	r := rand.New(rand.NewSource(44))
	c := cuts(many)
	met := map[[3]bool]int{}
	for range 1000 {
		a := some(r, r.Intn(9), len(c)-1).row(c)
		b := some(r, r.Intn(9), len(c)-1).row(c)
		for _, l := range [][]api.Span{Or(a, b), And(a, b), Not(a)} {
			if !May(l) {
				t.Fatalf("%+v, of %+v and %+v, is not a valid row", l, a, b)
			}
		}
		for i, v := range append(many, api.Version{Minor: 3}, api.Version{Pre: "5"}) {
			v.Build = []string{"", "b", "0.z"}[i%3]
			x, y := Has(a, v), Has(b, v)
			met[[3]bool{x, y}]++
			if Has(Or(a, b), v) != (x || y) || Has(And(a, b), v) != (x && y) || Has(Not(a), v) == x {
				t.Fatalf("%+v, %+v and %+v", a, b, v)
			}
		}
	}
	if len(met) != 4 {
		t.Errorf("not all cases were met: %v", met)
	}
}

// within reports whether s begins in the memory of whole.
func within(s, whole string) bool {
	if s == "" || whole == "" {
		return false
	}
	at := uintptr(unsafe.Pointer(unsafe.StringData(s)))
	from := uintptr(unsafe.Pointer(unsafe.StringData(whole)))
	return from <= at && at < from+uintptr(len(whole))
}

// tags are the Pres of the cuts of some rows.
func tags(rows ...[]api.Span) []string {
	var l []string
	for _, s := range slices.Concat(rows...) {
		l = append(l, s.From.V.Pre, s.To.V.Pre)
	}
	return l
}

// results are what the functions return of two rows, each of them twice.
func results(a, b []api.Span) [][]api.Span {
	var l [][]api.Span
	for range 2 {
		made, _ := Make(a)
		l = append(l, made, Or(a, b), Or(a, nil), Or(nil, b), And(a, b), And(a, a), Not(a))
	}
	return l
}

// R4 for P4.1, P4.2, P4.3: arguments stay as they are, with what stands behind
// their ends.
func TestArgumentsStay(t *testing.T) {
	c := cuts(few)
	rear := api.Span{From: c[6], To: c[1]}
	size := len(c) - 1
	for n := range 1 << size {
		a := append(all(n, size).row(c), rear, rear, rear)
		b := append(all(n*37%(1<<size), size).row(c), rear, rear, rear)
		wasA, wasB := slices.Clone(a), slices.Clone(b)
		x, y := a[:len(a)-3], b[:len(b)-3]
		results(x, y)
		slices.Reverse(x)
		Make(x)
		slices.Reverse(x)
		Within(x, y)
		Has(x, few[0])
		if !slices.Equal(a, wasA) || !slices.Equal(b, wasB) {
			t.Fatalf("%+v and %+v become %+v and %+v", wasA, wasB, a, b)
		}
	}
}

// R4 for P4.1, P4.2: results share no memory with arguments or one another.
func TestMemory(t *testing.T) {
	c := cuts(few)
	for _, n := range []int{0b0000001, 0b0101010, 0b1010101, 0b0110110, 0b1111111} {
		a, b := all(n, len(c)-1).row(c), all(0b0011110, len(c)-1).row(c)
		wasA, wasB := slices.Clone(a), slices.Clone(b)
		got := results(a, b)
		was := results(a, b)
		old := tags(a, b)
		for i, l := range got {
			for _, s := range tags(l) {
				if slices.ContainsFunc(old, func(o string) bool { return within(s, o) }) {
					t.Errorf("result %d of %+v and %+v has a string of before", i, a, b)
				}
				old = append(old, s)
			}
		}
		for i, l := range got {
			clear(l[:cap(l)]) // what stands behind the end, too
			for k := i + 1; k < len(got); k++ {
				if !slices.Equal(got[k], was[k]) {
					t.Errorf("result %d of %+v and %+v shares memory with result %d", k, a, b, i)
				}
			}
		}
		if !slices.Equal(a, wasA) || !slices.Equal(b, wasB) {
			t.Errorf("%+v and %+v share memory with a result", wasA, wasB)
		}
	}
}

// P4.1, P4.2: rows of many spans take no longer than their lengths explain.
func TestLongRows(t *testing.T) {
	const count = 10000
	var odd, even []api.Span
	for i := range count {
		v := func(n int) api.Cut {
			n = 4*i + n
			return api.Cut{V: api.Version{Major: n / 5000, Minor: n % 5000}}
		}
		odd = append(odd, api.Span{From: v(0), To: v(1)})
		even = append(even, api.Span{From: v(1), To: v(3)})
	}
	back := slices.Clone(odd)
	slices.Reverse(back)
	if l, ok := Make(back); !ok || !slices.Equal(l, odd) {
		t.Error("Make of a long list")
	}
	if l := Or(even, odd); len(l) != count || l[0].From != odd[0].From || l[0].To != even[0].To {
		t.Errorf("Or of long rows: %d spans", len(l))
	}
	if l := And(odd, Not(even)); !slices.Equal(l, odd) || len(And(odd, even)) != 0 {
		t.Error("And of long rows")
	}
	if !Within(odd, Or(odd, even)) || Within(odd, even) {
		t.Error("Within of long rows")
	}
	if last := even[count-1].From.V; !Has(even, last) || Has(odd, last) {
		t.Error("Has of long rows")
	}
}

// R1 for P4.1 and P4.2: strings of any length are held against their limits.
func TestLongStrings(t *testing.T) {
	high := api.Cut{End: 1}
	for _, x := range []string{"0", "a", ".", "a.", "\xff"} {
		v := api.Version{Pre: strings.Repeat(x, api.MaxIndex)}
		bad := []api.Span{{From: api.Cut{V: v}, To: high}}
		if May(bad) || Not(bad) != nil || Or(nil, bad) != nil || And(bad, bad) != nil {
			t.Errorf("a row with many %q is valid", x)
		}
		if l, ok := Make(bad); ok || l != nil {
			t.Errorf("a span with many %q is valid", x)
		}
		if Has([]api.Span{{To: high}}, v) {
			t.Errorf("a version with many %q is valid", x)
		}
	}
}

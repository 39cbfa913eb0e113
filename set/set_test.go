package set

import (
	"math"
	"math/rand"
	"slices"
	"strings"
	"testing"
	"unsafe"

	"linchpin/api"
	"linchpin/row"
)

var (
	low  = api.Cut{End: -1}
	high = api.Cut{End: 1}
)

// rel are the cuts of Rel that the tests use, each before the next one. The part
// with the place i is that from the cut with the place i to the next one.
var rel = []api.Cut{
	low,
	at(0, 0, 1),
	at(0, 0, 9999),
	at(0, 1, 0),
	at(1, 0, 0),
	at(1, 0, 1),
	at(9999, 9999, 9999),
	high,
}

// places are cuts, each before the next one, and for each of them the place in
// rel of the cut that replaces it.
var places = []struct {
	c     api.Cut
	place int
}{
	{low, 0},
	{pre(0, 0, 0, "0"), 0},
	{behind(pre(0, 0, 0, "0")), 0},
	{pre(0, 0, 0, "z.z"), 0},
	{behind(pre(0, 0, 0, "z.z")), 0},
	{at(0, 0, 0), 0},
	{behind(at(0, 0, 0)), 1},
	{pre(0, 0, 1, "0"), 1},
	{behind(pre(0, 0, 1, "a")), 1},
	{at(0, 0, 1), 1},
	{behind(pre(0, 0, 9999, "a")), 2},
	{at(0, 0, 9999), 2},
	{behind(at(0, 0, 9999)), 3},
	{at(0, 1, 0), 3},
	{behind(at(0, 9999, 9999)), 4},
	{pre(1, 0, 0, "2"), 4},
	{behind(pre(1, 0, 0, "10")), 4},
	{at(1, 0, 0), 4},
	{behind(at(1, 0, 0)), 5},
	{at(1, 0, 1), 5},
	{pre(9999, 9999, 9999, "a.b.c.d"), 6},
	{behind(pre(9999, 9999, 9999, "zzzzzzzz")), 6},
	{at(9999, 9999, 9999), 6},
	{behind(at(9999, 9999, 9999)), 7},
	{high, 7},
}

// releases are releases, and for each of them the place of its part of rel.
var releases = []struct {
	v     api.Version
	place int
}{
	{api.Version{}, 0},
	{api.Version{Build: "b"}, 0},
	{api.Version{Patch: 1}, 1},
	{api.Version{Patch: 2}, 1},
	{api.Version{Patch: 9998, Build: "0.z"}, 1},
	{api.Version{Patch: 9999}, 2},
	{api.Version{Minor: 1}, 3},
	{api.Version{Minor: 9999, Patch: 9999}, 3},
	{api.Version{Major: 1}, 4},
	{api.Version{Major: 1, Build: "b"}, 4},
	{api.Version{Major: 1, Patch: 1}, 5},
	{api.Version{Major: 9999, Minor: 9999, Patch: 9998}, 5},
	{api.Version{Major: 9999, Minor: 9999, Patch: 9999}, 6},
	{api.Version{Major: 9999, Minor: 9999, Patch: 9999, Build: "z"}, 6},
}

// few are cuts of Pre, each before the next one, with places as those of rel.
var few = []api.Cut{
	low, pre(1, 0, 0, "a"), behind(pre(1, 0, 0, "a")), behind(at(1, 0, 0)), high,
}

// ahead are versions with a Pre, and for each of them the place of its part of
// few.
var ahead = []struct {
	v     api.Version
	place int
}{
	{api.Version{Pre: "0"}, 0},
	{api.Version{Patch: 7, Pre: "a", Build: "b"}, 0},
	{api.Version{Major: 1, Pre: "9999"}, 0},
	{api.Version{Major: 1, Pre: "a"}, 1},
	{api.Version{Major: 1, Pre: "a", Build: "b"}, 1},
	{api.Version{Major: 1, Pre: "a.0"}, 2},
	{api.Version{Major: 1, Pre: "z", Build: "0"}, 2},
	{api.Version{Major: 1, Patch: 1, Pre: "0"}, 3},
	{api.Version{Major: 9999, Minor: 9999, Patch: 9999, Pre: "z"}, 3},
}

// wrong are versions that are not valid.
var wrong = []api.Version{
	{Major: -1}, {Minor: 10000}, {Patch: math.MinInt64}, {Major: math.MaxInt64},
	{Pre: "01"}, {Pre: "."}, {Major: 1, Pre: "A"}, {Major: 1, Build: "\xff"},
	{Major: 1, Pre: "123456789"}, {Pre: "a.b.c.d.e"}, {Major: 1, Build: "+"},
	{Major: 1, Pre: "a", Build: "."}, {Major: 10000, Pre: "a"},
}

// notCuts are cuts that are not valid.
var notCuts = []api.Cut{
	{End: 2}, {End: -2}, {End: math.MaxInt64}, {End: 1 << 32},
	{End: 1, After: true}, {End: -1, After: true},
	{End: 1, V: api.Version{Major: 1}}, {End: -1, V: api.Version{Pre: "0"}},
	{V: api.Version{Major: 1, Build: "b"}}, {V: api.Version{Major: -1}},
	{V: api.Version{Patch: 10000}, After: true}, {V: api.Version{Pre: "01"}},
}

func at(major, minor, patch int) api.Cut {
	return api.Cut{V: api.Version{Major: major, Minor: minor, Patch: patch}}
}

func pre(major, minor, patch int, tags string) api.Cut {
	c := at(major, minor, patch)
	c.V.Pre = tags
	return c
}

func behind(c api.Cut) api.Cut {
	c.After = true
	return c
}

// span is the row of the one span between two cuts.
func span(from, to api.Cut) []api.Span {
	return []api.Span{{From: from, To: to}}
}

// rowOf is the valid row of the parts between some cuts that the bits of n name.
func rowOf(cuts []api.Cut, n int) []api.Span {
	var l []api.Span
	for i := range len(cuts) - 1 {
		switch {
		case n>>i&1 == 0:
		case i > 0 && n>>(i-1)&1 == 1:
			l[len(l)-1].To = cuts[i+1]
		default:
			l = append(l, api.Span{From: cuts[i], To: cuts[i+1]})
		}
	}
	return l
}

// setOf is the set of the parts of rel and of few that the bits of n and m name.
func setOf(n, m int) api.Set {
	return api.Set{Rel: rowOf(rel, n), Pre: rowOf(few, m)}
}

// allCuts are the cuts of places.
func allCuts() []api.Cut {
	var l []api.Cut
	for _, p := range places {
		l = append(l, p.c)
	}
	return l
}

// relBits are the bits of the parts of rel that a row has, of the parts of places
// that the bits of n name.
func relBits(n int) int {
	bits := 0
	for i := range len(places) - 1 {
		if n>>i&1 == 1 {
			bits |= 1<<places[i+1].place - 1<<places[i].place
		}
	}
	return bits
}

// is reports whether s has these rows, and is valid.
func is(s api.Set, rel, pre []api.Span) bool {
	return slices.Equal(s.Rel, rel) && slices.Equal(s.Pre, pre) && May(s)
}

// checkNot holds every function against a set that is not valid.
func checkNot(t *testing.T, s api.Set) {
	t.Helper()
	if May(s) {
		t.Errorf("May(%+v) is true", s)
	}
	for _, x := range releases {
		if Has(s, x.v) {
			t.Errorf("Has(%+v, %+v) is true", s, x.v)
		}
	}
	for _, x := range ahead {
		if Has(s, x.v) {
			t.Errorf("Has(%+v, %+v) is true", s, x.v)
		}
	}
	if got := Not(s); !is(got, nil, nil) {
		t.Errorf("Not(%+v): %+v", s, got)
	}
	whole := api.Set{Rel: span(low, high), Pre: span(low, high)}
	for _, o := range []api.Set{{}, whole, setOf(5, 5), s} {
		for i, got := range []api.Set{Or(s, o), Or(o, s), And(s, o), And(o, s), Minus(s, o), Minus(o, s)} {
			if !is(got, nil, nil) {
				t.Errorf("result %d of %+v and %+v: %+v", i, s, o, got)
			}
		}
		if Within(s, o) || Within(o, s) || Apart(s, o) || Apart(o, s) {
			t.Errorf("%+v and %+v are within or apart", s, o)
		}
	}
}

// P5.1: which cuts may stand in Rel; all of them may in Pre.
func TestMayCuts(t *testing.T) {
	for i, p := range places {
		want := p.c == rel[p.place]
		for k, q := range places {
			both := want && q.c == rel[q.place]
			if i >= k {
				checkNot(t, api.Set{Rel: span(p.c, q.c)})
				checkNot(t, api.Set{Pre: span(p.c, q.c)})
				continue
			}
			if got := May(api.Set{Rel: span(p.c, q.c)}); got != both {
				t.Errorf("May of Rel from %+v to %+v: %v", p.c, q.c, got)
			}
			if !May(api.Set{Pre: span(p.c, q.c)}) {
				t.Errorf("May of Pre from %+v to %+v is false", p.c, q.c)
			}
		}
	}
}

// P5.1, P5.3: a cut that may not stand in Rel makes a set not valid, wherever it
// stands; what Pre contains changes nothing about it.
func TestNotSets(t *testing.T) {
	for i, p := range places {
		if p.c == rel[p.place] {
			continue
		}
		checkNot(t, api.Set{Rel: span(low, p.c)})
		checkNot(t, api.Set{Rel: span(p.c, high), Pre: span(low, high)})
		if i < 13 {
			checkNot(t, api.Set{Rel: append(span(low, p.c), span(at(1, 0, 0), high)...)})
			checkNot(t, api.Set{Rel: append(span(p.c, at(1, 0, 0)), span(at(1, 0, 1), high)...)})
		}
		if i > 13 {
			checkNot(t, api.Set{Rel: append(span(low, at(0, 0, 1)), span(at(0, 1, 0), p.c)...)})
			checkNot(t, api.Set{Rel: append(span(at(0, 0, 1), at(0, 1, 0)), span(p.c, high)...)})
		}
	}
}

// notRows are rows that are not valid, of cuts that may stand in Rel.
func notRows() [][]api.Span {
	one, two := at(0, 0, 1), at(1, 0, 0)
	l := [][]api.Span{
		{{}}, span(one, one), span(two, one), span(high, low), span(low, low),
		append(span(low, one), span(one, high)...),
		append(span(low, two), span(one, high)...),
		append(span(two, high), span(low, one)...),
		append(span(low, high), api.Span{}),
	}
	for _, c := range notCuts {
		l = append(l, span(c, high), span(low, c), span(c, c))
		l = append(l, append(span(low, one), span(two, c)...))
		l = append(l, append(span(c, one), span(two, high)...))
	}
	return l
}

// P5.1, P5.2, P5.3: if one of the rows is not valid, the set is not, and Make
// returns none.
func TestNotRows(t *testing.T) {
	good := span(low, high)
	for _, l := range notRows() {
		for _, s := range []api.Set{
			{Rel: l}, {Pre: l}, {Rel: l, Pre: l}, {Rel: good, Pre: l}, {Rel: l, Pre: good},
		} {
			checkNot(t, s)
			if got, ok := Make(s.Rel, s.Pre); ok || got.Rel != nil || got.Pre != nil {
				t.Errorf("Make(%+v, %+v): %+v, %v", s.Rel, s.Pre, got, ok)
			}
		}
	}
}

// P5.1: all sets of the parts of rel and of few, and versions of all these parts.
func TestHas(t *testing.T) {
	for n := range 1 << (len(rel) - 1) {
		for m := range 1 << (len(few) - 1) {
			s := setOf(n, m)
			if !May(s) {
				t.Fatalf("May(%+v) is false", s)
			}
			for _, x := range releases {
				if got := Has(s, x.v); got != (n>>x.place&1 == 1) {
					t.Fatalf("Has(%+v, %+v): %v", s, x.v, got)
				}
			}
			for _, x := range ahead {
				if got := Has(s, x.v); got != (m>>x.place&1 == 1) {
					t.Fatalf("Has(%+v, %+v): %v", s, x.v, got)
				}
			}
		}
	}
	for _, v := range wrong {
		if Has(api.Set{Rel: span(low, high), Pre: span(low, high)}, v) {
			t.Errorf("%+v is in the set of all versions", v)
		}
	}
}

// P5.1: the empty set, and the set of all versions.
func TestNoneAll(t *testing.T) {
	for range 2 {
		if s := None(); len(s.Rel) != 0 || len(s.Pre) != 0 || !May(s) {
			t.Errorf("None: %+v", s)
		}
		s := All()
		if !is(s, span(low, high), span(low, high)) {
			t.Errorf("All: %+v", s)
		}
		s.Rel[0], s.Pre[0] = api.Span{}, api.Span{} // the next result is another one
	}
	if !May(api.Set{Rel: []api.Span{}, Pre: []api.Span{}}) {
		t.Error("the set of two empty lists is not valid")
	}
}

// P5.1: the rows of Exact.
func TestExact(t *testing.T) {
	for _, x := range []struct {
		v        api.Version
		rel, pre []api.Span
	}{
		{api.Version{}, span(low, at(0, 0, 1)), nil},
		{api.Version{Build: "b"}, span(low, at(0, 0, 1)), nil},
		{api.Version{Patch: 1}, span(at(0, 0, 1), at(0, 0, 2)), nil},
		{api.Version{Patch: 9999}, span(at(0, 0, 9999), at(0, 1, 0)), nil},
		{api.Version{Minor: 9999, Patch: 9999}, span(at(0, 9999, 9999), at(1, 0, 0)), nil},
		{api.Version{Major: 1, Minor: 2, Patch: 3, Build: "a-b.0"}, span(at(1, 2, 3), at(1, 2, 4)), nil},
		{api.Version{Major: 9999, Minor: 9999, Patch: 9998}, span(at(9999, 9999, 9998), at(9999, 9999, 9999)), nil},
		{api.Version{Major: 9999, Minor: 9999, Patch: 9999}, span(at(9999, 9999, 9999), high), nil},
		{api.Version{Pre: "0"}, nil, span(pre(0, 0, 0, "0"), behind(pre(0, 0, 0, "0")))},
		{api.Version{Pre: "a.1", Build: "b"}, nil, span(pre(0, 0, 0, "a.1"), behind(pre(0, 0, 0, "a.1")))},
		{api.Version{Major: 1, Pre: "a"}, nil, span(few[1], few[2])},
		{
			api.Version{Major: 9999, Minor: 9999, Patch: 9999, Pre: "z", Build: "z"}, nil,
			span(pre(9999, 9999, 9999, "z"), behind(pre(9999, 9999, 9999, "z"))),
		},
	} {
		if s := Exact(x.v); !is(s, x.rel, x.pre) {
			t.Errorf("Exact(%+v): %+v", x.v, s)
		}
	}
	for _, v := range wrong {
		if s := Exact(v); !is(s, nil, nil) {
			t.Errorf("Exact(%+v): %+v", v, s)
		}
	}
}

// P5.1: Exact contains the version, with any Build, and no other one.
func TestExactly(t *testing.T) {
	var l []api.Version
	for _, n := range []int{0, 1, 9998, 9999} {
		for _, m := range []int{0, 1, 9999} {
			for _, tags := range []string{"", "0", "1", "a", "a.0", "z"} {
				l = append(l, api.Version{Major: m, Minor: m, Patch: n, Pre: tags})
				l = append(l, api.Version{Major: n, Minor: 1, Patch: m, Pre: tags})
			}
		}
	}
	for _, v := range l {
		for _, w := range l {
			same := v == w
			v.Build, w.Build = "b", "0"
			if got := Has(Exact(v), w); got != same {
				t.Errorf("Has of Exact(%+v) and %+v: %v", v, w, got)
			}
			v.Build = ""
		}
	}
}

// checkMake holds Make against the parts of places that the bits of n and m name.
func checkMake(t *testing.T, cuts []api.Cut, n, m int) {
	t.Helper()
	x, y := rowOf(cuts, n), rowOf(cuts, m)
	s, ok := Make(x, y)
	if !ok || !is(s, rowOf(rel, relBits(n)), y) {
		t.Fatalf("Make(%+v, %+v): %+v, %v", x, y, s, ok)
	}
}

// P5.2: each cut of rel, which is replaced by one that may stand in Rel.
func TestMakeCuts(t *testing.T) {
	for i, p := range places {
		for _, q := range places[i+1:] {
			var want []api.Span
			if p.place < q.place {
				want = span(rel[p.place], rel[q.place])
			}
			s, ok := Make(span(p.c, q.c), nil)
			if !ok || !is(s, want, nil) {
				t.Errorf("Make from %+v to %+v: %+v, %v", p.c, q.c, s, ok)
			}
			s, ok = Make(nil, span(p.c, q.c))
			if !ok || !is(s, nil, span(p.c, q.c)) {
				t.Errorf("Make of Pre from %+v to %+v: %+v, %v", p.c, q.c, s, ok)
			}
		}
	}
}

// P5.2: rows of up to two spans, whose spans become empty or adjacent; and longer
// rows.
func TestMake(t *testing.T) {
	cuts := allCuts()
	part := func(from, to int) int { return 1<<to - 1<<from }
	for i := range cuts {
		for k := i + 1; k < len(cuts); k++ {
			for from := k + 1; from < len(cuts); from++ {
				checkMake(t, cuts, part(i, k)|part(from, len(cuts)-1), part(i, k))
				checkMake(t, cuts, part(i, k)|part(from, from+1)&part(0, len(cuts)-1), 0)
			}
		}
	}
	r := rand.New(rand.NewSource(51))
	size := 1 << (len(cuts) - 1)
	for range 4000 {
		n, m := r.Intn(size), r.Intn(size)
		checkMake(t, cuts, n, m)
		checkMake(t, cuts, n&m, n|m)
		checkMake(t, cuts, n|m|r.Intn(size), n&m&r.Intn(size))
	}
	for _, none := range [][]api.Span{nil, {}} {
		if s, ok := Make(none, none); !ok || !is(s, nil, nil) {
			t.Errorf("Make of empty rows: %+v, %v", s, ok)
		}
	}
}

// checkTwo holds the functions of sets against the parts that the bits of n and m,
// those of x and y in Rel and in Pre, name.
func checkTwo(t *testing.T, x, y [2]int) {
	t.Helper()
	each := func(do func(n, m int) int) api.Set {
		return setOf(do(x[0], y[0]), do(x[1], y[1]))
	}
	a, b := setOf(x[0], x[1]), setOf(y[0], y[1])
	for _, s := range []struct {
		name      string
		got, want api.Set
	}{
		{"Or", Or(a, b), each(func(n, m int) int { return n | m })},
		{"And", And(a, b), each(func(n, m int) int { return n & m })},
		{"Not", Not(a), each(func(n, _ int) int { return ^n })},
		{"Minus", Minus(a, b), each(func(n, m int) int { return n &^ m })},
	} {
		if !is(s.got, s.want.Rel, s.want.Pre) {
			t.Errorf("%s(%+v, %+v): %+v", s.name, a, b, s.got)
		}
	}
	if got := Within(a, b); got != (x[0]&^y[0] == 0 && x[1]&^y[1] == 0) {
		t.Errorf("Within(%+v, %+v): %v", a, b, got)
	}
	if got := Apart(a, b); got != (x[0]&y[0] == 0 && x[1]&y[1] == 0) {
		t.Errorf("Apart(%+v, %+v): %v", a, b, got)
	}
	if got := Same(a, b); got != (x == y) {
		t.Errorf("Same(%+v, %+v): %v", a, b, got)
	}
}

// P5.3: all pairs of sets of a few parts.
func TestPairs(t *testing.T) {
	var l [][2]int
	for n := range 8 {
		for m := range 1 << (len(few) - 1) {
			l = append(l, [2]int{n, m})
		}
	}
	for _, x := range l {
		for _, y := range l {
			checkTwo(t, x, y)
		}
	}
}

// P5.3: sets of more parts, some of them within one another.
func TestLongPairs(t *testing.T) {
	r := rand.New(rand.NewSource(53))
	parts := func() [2]int { return [2]int{r.Intn(1 << (len(rel) - 1)), r.Intn(1 << (len(few) - 1))} }
	for range 3000 {
		x, y := parts(), parts()
		checkTwo(t, x, y)
		checkTwo(t, [2]int{x[0] & y[0], x[1] & y[1]}, y)
		checkTwo(t, x, [2]int{x[0] | y[0], x[1] | y[1]})
		checkTwo(t, x, [2]int{y[0] &^ x[0], y[1] &^ x[1]})
	}
}

// P5.3: segments of Pre without a version with a Pre are segments as well.
func TestPreWithoutVersions(t *testing.T) {
	a := api.Set{Pre: span(at(1, 0, 0), behind(at(1, 0, 0)))}
	if !May(a) || Apart(a, a) || Same(a, None()) || Within(a, None()) {
		t.Errorf("%+v is the empty set", a)
	}
	if got := Or(a, a); !Same(got, a) {
		t.Errorf("Or(%+v, itself): %+v", a, got)
	}
	if got, ok := Make(a.Pre, a.Pre); !ok || !is(got, span(at(1, 0, 0), at(1, 0, 1)), a.Pre) {
		t.Errorf("Make(%+v, the same): %+v, %v", a.Pre, got, ok)
	}
}

// P5.3: Same says whether the spans are the same ones, of any sets.
func TestSame(t *testing.T) {
	bad := api.Cut{End: 7, V: api.Version{Major: -1, Minor: 1 << 40, Patch: 2, Pre: "\xff", Build: "b"}}
	good := at(1, 2, 3)
	if !Same(api.Set{Rel: []api.Span{}}, api.Set{Pre: []api.Span{}}) {
		t.Error("nil and an empty list are not the same")
	}
	for _, c := range []api.Cut{bad, good, low, {}} {
		others := []api.Cut{c, c, c, c, c, c, c}
		others[0].End++
		others[1].After = true
		others[2].V.Major++
		others[3].V.Minor--
		others[4].V.Patch += 1 << 32
		others[5].V.Pre += "a"
		others[6].V.Build += "b"
		sets := []api.Set{{Rel: span(c, c)}, {Pre: span(c, c)}, {Rel: span(c, c), Pre: span(c, c)}, {}}
		twice := append(span(c, c), span(c, c)...)
		sets = append(sets, api.Set{Rel: twice}, api.Set{Pre: twice}, api.Set{Rel: twice, Pre: span(c, c)})
		for _, o := range others {
			sets = append(sets, api.Set{Rel: span(o, c)}, api.Set{Rel: span(c, o)})
			sets = append(sets, api.Set{Pre: span(o, c)}, api.Set{Pre: span(c, o)})
			sets = append(sets, api.Set{Rel: append(span(c, c), span(c, o)...)})
			sets = append(sets, api.Set{Rel: append(span(c, o), span(c, c)...)})
		}
		for i, a := range sets {
			b := api.Set{Rel: slices.Clone(a.Rel), Pre: slices.Clone(a.Pre)}
			for k, other := range sets {
				if got := Same(b, other); got != (i == k) {
					t.Errorf("Same(%+v, %+v): %v", b, other, got)
				}
			}
		}
	}
}

// P5.4: what Has says of what Make returns, by what the rows say.
func TestConsequence(t *testing.T) {
	r := rand.New(rand.NewSource(54))
	cuts := allCuts()
	met := map[[2]bool]int{}
	for range 500 {
		size := 1 << (len(cuts) - 1)
		x, y := rowOf(cuts, r.Intn(size)&r.Intn(size)), rowOf(cuts, r.Intn(size))
		s, ok := Make(x, y)
		if !ok {
			t.Fatalf("Make(%+v, %+v) returns false", x, y)
		}
		for _, p := range places {
			for _, tags := range []string{"", "0", "a", p.c.V.Pre} {
				v := p.c.V
				v.Pre, v.Build = tags, []string{"", "b"}[r.Intn(2)]
				want := row.Has(x, v)
				if tags != "" {
					want = row.Has(y, v)
				}
				met[[2]bool{want, tags == ""}]++
				if got := Has(s, v); got != want {
					t.Fatalf("Has(%+v, of %+v and %+v, %+v): %v", s, x, y, v, got)
				}
			}
		}
	}
	if len(met) != 4 {
		t.Errorf("not all cases were met: %v", met)
	}
}

// within reports whether s begins in the memory of whole.
func within(s, whole string) bool {
	if s == "" || whole == "" {
		return false
	}
	from := uintptr(unsafe.Pointer(unsafe.StringData(whole)))
	p := uintptr(unsafe.Pointer(unsafe.StringData(s)))
	return from <= p && p < from+uintptr(len(whole))
}

// tags are the Pres of the cuts of some sets.
func tags(sets ...api.Set) []string {
	var l []string
	for _, s := range sets {
		for _, x := range slices.Concat(s.Rel, s.Pre) {
			l = append(l, x.From.V.Pre, x.To.V.Pre)
		}
	}
	return l
}

// results are what the functions return of two sets and a version, each of them
// twice.
func results(a, b api.Set, v api.Version) []api.Set {
	var l []api.Set
	for range 2 {
		made, _ := Make(a.Pre, a.Pre)
		again, _ := Make(a.Rel, b.Pre)
		l = append(l, made, again, None(), All(), Exact(v), Or(a, b), Or(a, None()), Or(a, a))
		l = append(l, And(a, b), And(a, a), And(All(), b), Not(a), Minus(a, b), Minus(a, None()))
	}
	return l
}

// R4 for P5.1, P5.2, P5.3: arguments stay as they are, with what stands behind
// their ends.
func TestArgumentsStay(t *testing.T) {
	rear := span(high, low)[0]
	long := func(s api.Set) api.Set {
		return api.Set{Rel: append(s.Rel, rear, rear), Pre: append(s.Pre, rear, rear)}
	}
	short := func(s api.Set) api.Set {
		return api.Set{Rel: s.Rel[:len(s.Rel)-2], Pre: s.Pre[:len(s.Pre)-2]}
	}
	for n := range 1 << (len(rel) - 1) {
		a, b := long(setOf(n, n%16)), long(setOf(n*37%128, n/3%16))
		wasA := api.Set{Rel: slices.Clone(a.Rel), Pre: slices.Clone(a.Pre)}
		wasB := api.Set{Rel: slices.Clone(b.Rel), Pre: slices.Clone(b.Pre)}
		x, y := short(a), short(b)
		results(x, y, ahead[3].v)
		May(x)
		Has(x, ahead[3].v)
		Within(x, y)
		Apart(x, y)
		Same(x, y)
		if !Same(a, wasA) || !Same(b, wasB) {
			t.Fatalf("%+v and %+v become %+v and %+v", wasA, wasB, a, b)
		}
	}
}

// R4 for P5.1, P5.2, P5.3: results share no memory with arguments or one another,
// nor their rows.
func TestMemory(t *testing.T) {
	a := api.Set{Rel: rowOf(rel, 0b1010101), Pre: rowOf(few, 0b1010)}
	b := api.Set{Rel: rowOf(rel, 0b0110110), Pre: append(span(low, pre(0, 0, 0, "z")), span(few[1], high)...)}
	v := api.Version{Major: 1, Pre: "a.b", Build: "b"}
	wasA := api.Set{Rel: slices.Clone(a.Rel), Pre: slices.Clone(a.Pre)}
	wasB := api.Set{Rel: slices.Clone(b.Rel), Pre: slices.Clone(b.Pre)}
	got, was := results(a, b, v), results(a, b, v)
	old := append(tags(a, b), v.Pre)
	for i, s := range got {
		for _, tag := range tags(s) {
			if slices.ContainsFunc(old, func(o string) bool { return within(tag, o) }) {
				t.Errorf("result %d has a string of before", i)
			}
			old = append(old, tag)
		}
	}
	for i, s := range got {
		clear(s.Rel[:cap(s.Rel)]) // what stands behind the end, too
		if !slices.Equal(s.Pre, was[i].Pre) {
			t.Errorf("the rows of result %d share memory", i)
		}
		clear(s.Pre[:cap(s.Pre)])
		for k := i + 1; k < len(got); k++ {
			if !Same(got[k], was[k]) {
				t.Errorf("result %d shares memory with result %d", k, i)
			}
		}
	}
	if !Same(a, wasA) || !Same(b, wasB) {
		t.Error("an argument shares memory with a result")
	}
}

// R1 for P5.1 to P5.3: strings of any length are held against their limits.
func TestLongStrings(t *testing.T) {
	for _, x := range []string{"0", "a", ".", "a.", "\xff"} {
		v := api.Version{Pre: strings.Repeat(x, api.MaxIndex)}
		l := span(api.Cut{V: v}, high)
		if s := Exact(v); !is(s, nil, nil) || Has(All(), v) {
			t.Errorf("a version with many %q is valid", x)
		}
		for _, s := range []api.Set{{Rel: l}, {Pre: l}} {
			got, ok := Make(s.Rel, s.Pre)
			if ok || !is(got, nil, nil) || May(s) || !Same(Not(s), None()) || !Same(s, s) {
				t.Errorf("a set with many %q is valid", x)
			}
		}
	}
}

// P5.2, P5.3: sets of many spans take no longer than their lengths explain.
func TestLongSets(t *testing.T) {
	const count = 10000
	var odd, even []api.Span
	for i := range count {
		n := 4*i + 1
		c := func(n int, tags string) api.Cut { return pre(n/5000, n%5000, 0, tags) }
		odd = append(odd, api.Span{From: c(n, "a"), To: c(n+1, "a")})
		even = append(even, api.Span{From: c(n+1, "a"), To: c(n+3, "")})
	}
	a, ok := Make(odd, odd)
	b, okB := Make(even, even)
	if !ok || !okB || len(a.Rel) != count || len(b.Rel) != count || !slices.Equal(a.Pre, odd) {
		t.Fatal("Make of long rows")
	}
	if !Apart(a, b) || !Same(Minus(Or(a, b), b), a) || !Within(b, Not(a)) || len(Or(a, b).Rel) != count {
		t.Error("long sets")
	}
	if v := even[count-1].From.V; !Has(b, v) || Has(a, v) {
		t.Error("Has of long sets")
	}
}

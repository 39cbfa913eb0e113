package cut

import (
	"cmp"
	"math"
	"strings"
	"testing"

	"linchpin/api"
	"linchpin/version"
)

// rising are strings of versions, each of which is less than the next one.
var rising = []string{
	"0.0.0-0", "0.0.0-0.0", "0.0.0-2", "0.0.0-2.z", "0.0.0-10", "0.0.0-9999",
	"0.0.0--", "0.0.0-00a", "0.0.0-a", "0.0.0-a.9", "0.0.0-a.10", "0.0.0-a.b",
	"0.0.0-a10", "0.0.0-a9", "0.0.0-zzzzzzzz.zzzzzzzz.zzzzzzzz.zzzzzzzz",
	"0.0.0", "0.0.1-0", "0.0.1", "0.0.2", "0.0.10", "0.0.9999", "0.1.0-z",
	"0.1.0", "0.9999.9999", "1.0.0-0", "1.0.0-rc.1", "1.0.0-rc.1.0",
	"1.0.0-rc.2", "1.0.0", "1.0.1-a", "1.0.1", "1.2.0", "1.10.0", "2.0.0-0",
	"2.0.0", "10.0.0", "9999.9999.9999-z", "9999.9999.9999",
}

// builds are Builds that a valid version can have.
var builds = []string{"", "b", "0", "01", "z.z", "a.b.c.d", "--------"}

// wrong are versions that are not valid.
var wrong = []api.Version{
	{Major: -1}, {Minor: -1}, {Patch: -1}, {Major: 10000}, {Minor: 10000},
	{Patch: 10000}, {Major: math.MaxInt64}, {Patch: math.MinInt64},
	{Minor: 1 << 32}, {Pre: "."}, {Pre: "01"}, {Pre: "a..b"}, {Pre: "A"},
	{Pre: "\xff"}, {Pre: "123456789"}, {Pre: "a.b.c.d.e"}, {Build: "."},
	{Build: "\x00"}, {Major: 1, Build: "abcdefghi"}, {Pre: "a", Build: "+"},
}

// otherEnds are numbers that are no End.
var otherEnds = []int{
	-2, 2, -3, 3, 255, 256, -256, math.MinInt64, math.MaxInt64, math.MinInt32,
	math.MaxInt32, 1 << 32, 1<<32 + 1, 1<<32 - 1, -1 << 32,
}

// versions are the versions of rising.
func versions(t *testing.T) []api.Version {
	t.Helper()
	var l []api.Version
	for _, s := range rising {
		v, err := version.Parse(s)
		if err != api.OK {
			t.Fatalf("Parse(%q): %v", s, err)
		}
		l = append(l, v)
	}
	return l
}

// cuts are valid cuts, each of which is before the next one. The version with
// the place k in rising stands between those with the places 2k+1 and 2k+2.
func cuts(t *testing.T) []api.Cut {
	t.Helper()
	l := []api.Cut{{End: -1}}
	for _, v := range versions(t) {
		l = append(l, api.Cut{V: v}, api.Cut{V: v, After: true})
	}
	return append(l, api.Cut{End: 1})
}

// notCuts are cuts that are not valid.
func notCuts(t *testing.T) []api.Cut {
	t.Helper()
	var l []api.Cut
	for _, c := range cuts(t) {
		for _, end := range otherEnds {
			l = append(l, api.Cut{End: end, V: c.V, After: c.After})
		}
		for _, build := range builds[1:] {
			v := c.V
			v.Build = build
			l = append(l, api.Cut{End: c.End, V: v, After: c.After})
		}
	}
	for _, end := range []int{-1, 1} {
		l = append(l, api.Cut{End: end, After: true})
		for _, v := range versions(t) {
			if v != (api.Version{}) {
				l = append(l, api.Cut{End: end, V: v})
			}
			l = append(l, api.Cut{End: end, V: v, After: true})
		}
	}
	for _, end := range []int{-1, 0, 1} {
		for _, v := range wrong {
			l = append(l, api.Cut{End: end, V: v}, api.Cut{End: end, V: v, After: true})
		}
	}
	return l
}

// P3.1: the cuts that are valid, and no others.
func TestMay(t *testing.T) {
	for _, c := range cuts(t) {
		if !May(c) {
			t.Errorf("May(%+v) is false", c)
		}
	}
	for _, c := range notCuts(t) {
		if May(c) {
			t.Errorf("May(%+v) is true", c)
		}
	}
	if !May(api.Cut{}) {
		t.Error("the cut directly before 0.0.0 is not valid")
	}
}

// P3.1: each pair of a list of cuts.
func TestCompare(t *testing.T) {
	l := cuts(t)
	for i, a := range l {
		for k, b := range l {
			if got := Compare(a, b); got != cmp.Compare(i, k) {
				t.Errorf("Compare(%+v, %+v): %d", a, b, got)
			}
		}
	}
}

// P3.1: Compare returns 0 if a or b is not valid, also if they differ.
func TestCompareNotValid(t *testing.T) {
	good := cuts(t)
	for _, a := range notCuts(t) {
		for _, b := range append(good, a) {
			if Compare(a, b) != 0 || Compare(b, a) != 0 {
				t.Errorf("Compare(%+v, %+v) is not 0 both ways", a, b)
			}
		}
	}
	bad := notCuts(t)
	for i, a := range bad {
		if b := bad[len(bad)-1-i]; Compare(a, b) != 0 {
			t.Errorf("Compare(%+v, %+v): %d", a, b, Compare(a, b))
		}
	}
}

// P3.1: each cut of a list and each version of a list, whose Build is ignored.
func TestAhead(t *testing.T) {
	for i, c := range cuts(t) {
		for k, v := range versions(t) {
			for _, build := range builds {
				v.Build = build
				if got := Ahead(c, v); got != (i <= 2*k+1) {
					t.Errorf("Ahead(%+v, %+v): %v", c, v, got)
				}
			}
		}
	}
}

// P3.1: no cut is before a version if one of the two is not valid.
func TestAheadNotValid(t *testing.T) {
	for _, c := range notCuts(t) {
		for _, v := range versions(t) {
			if Ahead(c, v) {
				t.Errorf("Ahead(%+v, %+v) is true", c, v)
			}
		}
		if Ahead(c, c.V) {
			t.Errorf("Ahead(%+v, %+v) is true", c, c.V)
		}
	}
	for _, v := range wrong {
		for _, c := range cuts(t) {
			if Ahead(c, v) {
				t.Errorf("Ahead(%+v, %+v) is true", c, v)
			}
		}
	}
}

// P3.2: a span needs a From before its To, and both of them valid.
func TestSpanMay(t *testing.T) {
	l := cuts(t)
	for i, from := range l {
		for k, to := range l {
			s := api.Span{From: from, To: to}
			if got := SpanMay(s); got != (i < k) {
				t.Errorf("SpanMay(%+v): %v", s, got)
			}
		}
	}
	for _, c := range notCuts(t) {
		for _, s := range []api.Span{
			{From: l[0], To: c}, {From: c, To: l[len(l)-1]},
			{From: c, To: c}, {From: l[3], To: c}, {From: c, To: l[3]},
		} {
			if SpanMay(s) {
				t.Errorf("SpanMay(%+v) is true", s)
			}
		}
	}
	if SpanMay(api.Span{}) {
		t.Error("a span without versions is valid")
	}
}

// P3.2: a span holds what stands between its cuts; Build is ignored.
func TestHolds(t *testing.T) {
	l, all := cuts(t), versions(t)
	for i, from := range l {
		for k, to := range l {
			s := api.Span{From: from, To: to}
			for n, v := range all {
				v.Build = builds[(i+k+n)%len(builds)]
				want := i <= 2*n+1 && k >= 2*n+2
				if got := Holds(s, v); got != want {
					t.Fatalf("Holds(%+v, %+v): %v", s, v, got)
				}
			}
		}
	}
}

// P3.2: a span that is not valid holds nothing, and no span holds a version
// that is not valid.
func TestHoldsNotValid(t *testing.T) {
	all := api.Span{From: api.Cut{End: -1}, To: api.Cut{End: 1}}
	for _, v := range wrong {
		for _, s := range []api.Span{
			all, {From: all.From, To: api.Cut{V: api.Version{Major: 9}}},
			{From: api.Cut{V: api.Version{Pre: "0"}}, To: all.To},
		} {
			if Holds(s, v) {
				t.Errorf("Holds(%+v, %+v) is true", s, v)
			}
		}
	}
	for _, c := range notCuts(t) {
		for _, s := range []api.Span{
			{From: all.From, To: c}, {From: c, To: all.To}, {From: c, To: c},
		} {
			for _, v := range append(versions(t), c.V) {
				if Holds(s, v) {
					t.Errorf("Holds(%+v, %+v) is true", s, v)
				}
			}
		}
	}
}

// P3.2: the least and the greatest span around a version, and what touches it.
func TestHoldsOne(t *testing.T) {
	low, high := api.Cut{End: -1}, api.Cut{End: 1}
	for _, v := range versions(t) {
		front, back := api.Cut{V: v}, api.Cut{V: v, After: true}
		for _, x := range []struct {
			from, to api.Cut
			want     bool
		}{
			{front, back, true}, {low, back, true}, {front, high, true},
			{low, high, true}, {low, front, false}, {back, high, false},
			{back, front, false}, {front, front, false}, {back, back, false},
			{high, low, false}, {low, low, false}, {high, high, false},
		} {
			if got := Holds(api.Span{From: x.from, To: x.to}, v); got != x.want {
				t.Errorf("Holds(%+v to %+v, %+v): %v", x.from, x.to, v, got)
			}
		}
	}
}

// P3.3: a cut is before every version that a cut behind it is before.
func TestConsequence(t *testing.T) {
	l := append(cuts(t), notCuts(t)[:200]...)
	met := 0
	for _, a := range l {
		for _, b := range l {
			if Compare(a, b) >= 0 {
				continue
			}
			for _, v := range versions(t) {
				if !Ahead(b, v) {
					continue
				}
				met++
				if !Ahead(a, v) {
					t.Errorf("%+v is before %+v, but not before %+v", a, b, v)
				}
			}
		}
	}
	if met == 0 {
		t.Error("no two cuts are before a version")
	}
}

// R1 for P3.1 and P3.2: strings of any length are held against their limits.
func TestLongStrings(t *testing.T) {
	low, high := api.Cut{End: -1}, api.Cut{End: 1}
	for _, x := range []string{"0", "a", "-", ".", "a.", "\xff"} {
		long := strings.Repeat(x, api.MaxIndex)
		for _, v := range []api.Version{{Pre: long}, {Build: long}, {Pre: long, Build: long}} {
			c := api.Cut{V: v}
			if May(c) || Compare(c, high) != 0 || Compare(low, c) != 0 {
				t.Errorf("a cut at a version with many %q is valid", x)
			}
			if Ahead(low, v) || Holds(api.Span{From: low, To: high}, v) {
				t.Errorf("a version with many %q is valid", x)
			}
		}
	}
}

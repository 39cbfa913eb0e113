package fresh

import (
	"reflect"
	"slices"
	"strings"
	"testing"
	"unsafe"

	"linchpin/api"
)

// base is a shelf in which every field of every type is set, and differs from every
// other one of its kind.
func base() api.Shelf {
	n := 0
	next := func() string {
		n++
		return "text" + strings.Repeat("s", n)
	}
	words := func() []string { return []string{next(), next()} }
	wish := func(bare bool) api.Wish {
		return api.Wish{Name: next(), Range: next(), Features: words(), Bare: bare}
	}
	entry := func(yanked bool) api.Entry {
		n++
		return api.Entry{Sum: uint64(n), Yanked: yanked, Rec: api.Record{
			Name: next(),
			V:    api.Version{Major: n + 1, Minor: n + 2, Patch: n + 3, Pre: next(), Build: next()},
			Needs: []api.Need{
				{Any: []api.Wish{wish(true), wish(false)}, When: next(), Option: next()},
				{Any: []api.Wish{wish(false)}, When: next(), Option: next()},
			},
			Bars:     []api.Bar{{Name: next(), Range: next(), When: next()}, {Name: next(), Range: next(), When: next()}},
			Features: []api.Feature{{Name: next(), Of: words()}, {Name: next(), Of: words()}},
		}}
	}
	return api.Shelf{Name: next(), Entries: []api.Entry{entry(true), entry(false)}}
}

// region is a part of the memory.
type region struct{ from, to uintptr }

// regions are the strings of v and its lists, each list with what lies behind it.
func regions(v reflect.Value) []region {
	var l []region
	switch v.Kind() {
	case reflect.String:
		from := uintptr(unsafe.Pointer(unsafe.StringData(v.String())))
		l = append(l, region{from, from + uintptr(v.Len())})
	case reflect.Slice:
		l = append(l, region{v.Pointer(), v.Pointer() + uintptr(v.Cap())*v.Type().Elem().Size()})
		for i := range v.Len() {
			l = append(l, regions(v.Index(i))...)
		}
	case reflect.Struct:
		for i := range v.NumField() {
			l = append(l, regions(v.Field(i))...)
		}
	}
	return l
}

// apart reports whether no two strings or lists of these values share memory.
func apart(values ...any) bool {
	var l []region
	for _, x := range values {
		l = append(l, regions(reflect.ValueOf(x))...)
	}
	l = slices.DeleteFunc(l, func(x region) bool { return x.from == x.to })
	for i, a := range l {
		for _, b := range l[:i] {
			if a.from < b.to && b.from < a.to {
				return false
			}
		}
	}
	return true
}

// R4: copies are equal to what they were made of, and share no memory.
func TestCopies(t *testing.T) {
	s := base()
	r := s.Entries[0].Rec
	a, b, c, d := Shelf(s), Shelf(s), Record(r), Record(r)
	v, w := Version(r.V), Version(r.V)
	p := api.Pin{Name: strings.Repeat("n", 3), Shelf: strings.Repeat("s", 4)}
	x, y := Pin(p), Pin(p)
	if !reflect.DeepEqual(a, base()) || !reflect.DeepEqual(b, base()) || !reflect.DeepEqual(s, base()) {
		t.Errorf("Shelf of %+v: %+v", s, a)
	}
	if !reflect.DeepEqual(c, r) || !reflect.DeepEqual(d, r) || v != r.V || w != r.V {
		t.Errorf("Record of %+v: %+v", r, c)
	}
	if x != p || y != p || Pin(api.Pin{}) != (api.Pin{}) {
		t.Errorf("Pin of %+v: %+v", p, x)
	}
	if !apart(s, a, b, c, d, v, w, p, x, y) {
		t.Error("copies share memory")
	}
}

// R4: two lists of a copy share no memory where those of the argument do.
func TestShared(t *testing.T) {
	s := base()
	s.Entries[1].Rec = s.Entries[0].Rec
	r := &s.Entries[0].Rec
	r.Needs[1] = r.Needs[0]
	r.Needs[0].Any[1] = r.Needs[0].Any[0]
	r.Bars[1] = r.Bars[0]
	r.Features[1] = r.Features[0]
	r.Features[0].Of[1] = r.Features[0].Of[0]
	if apart(s) || !apart(s.Name, Shelf(s)) || !apart(Record(*r)) || !reflect.DeepEqual(Shelf(s), s) {
		t.Error("two lists of a copy share memory")
	}
}

// R1, R4: lists without elements, and what lies behind the elements of the others.
func TestEmpty(t *testing.T) {
	for _, s := range []api.Shelf{{}, {Name: "x"}, {Entries: make([]api.Entry, 3)}} {
		if !reflect.DeepEqual(Shelf(s), s) {
			t.Errorf("Shelf of %+v: %+v", s, Shelf(s))
		}
	}
	r := api.Record{Needs: []api.Need{{}, {Any: []api.Wish{{}}}}, Bars: []api.Bar{{}}, Features: []api.Feature{{}}}
	if !reflect.DeepEqual(Record(r), r) || !reflect.DeepEqual(Record(api.Record{}), api.Record{}) || Version(api.Version{}) != (api.Version{}) {
		t.Errorf("Record of %+v: %+v", r, Record(r))
	}
	s := base()
	s.Entries = s.Entries[:1]
	s.Entries[0].Rec.Features = s.Entries[0].Rec.Features[:1]
	c := Shelf(s)
	c.Entries = append(c.Entries, api.Entry{Sum: 7})
	c.Entries[0].Rec.Features = append(c.Entries[0].Rec.Features, api.Feature{Name: "x"})
	if was := base(); !reflect.DeepEqual(s.Entries[:2][1], was.Entries[1]) || !reflect.DeepEqual(s.Entries[0].Rec.Features[:2], was.Entries[0].Rec.Features) {
		t.Error("what lies behind the argument was changed")
	}
	if c = Shelf(s); len(c.Entries) != 1 || len(c.Entries[0].Rec.Features) != 1 {
		t.Errorf("what lies behind the argument was copied: %+v", c)
	}
}

package record

import (
	"slices"
	"strings"

	"linchpin/api"
	"linchpin/ident"
	"linchpin/version"
)

// The words of a record's string, beside its names, ranges and so on.
const (
	packageWord = "package"
	needWord    = "need"
	anyWord     = "any"
	whenWord    = "when"
	optionWord  = "option"
	barWord     = "bar"
	featureWord = "feature"

	bare       = "bare"
	full       = "full"
	noFeatures = "-"
)

// The kinds of lines, numbered so that the kinds which a line may follow are adjacent.
const (
	none = iota // ahead of the first line
	head
	need
	wish
	needWhen
	needOption
	bar
	barWhen
	ability // one of the package's own features
)

// layout is the form of the lines of a kind.
type layout struct {
	kind     int
	word     string // which is the first part
	from, to int    // the kinds that a line directly ahead may have, and all between
	parts    int
	open     bool // the last part extends to the end of the line
	more     bool // there may be more parts
}

var layouts = [...]layout{
	{kind: head, word: packageWord, from: none, to: none, parts: 3},
	{kind: need, word: needWord, from: head, to: needOption, parts: 1},
	{kind: wish, word: anyWord, from: need, to: wish, parts: 5, open: true},
	{kind: needWhen, word: whenWord, from: need, to: wish, parts: 2, open: true},
	{kind: needOption, word: optionWord, from: need, to: needWhen, parts: 2},
	{kind: bar, word: barWord, from: head, to: barWhen, parts: 3, open: true},
	{kind: barWhen, word: whenWord, from: bar, to: bar, parts: 2, open: true},
	{kind: ability, word: featureWord, from: head, to: ability, parts: 2, more: true},
}

// Parse returns the record whose string is s; or api.ErrLong and 0 if s has more than
// api.MaxText bytes, api.ErrForm and the number of the first line that does not have
// its form, or the error of Check and 0.
func Parse(s string) (api.Record, api.Errno, int) {
	if len(s) > api.MaxText {
		return api.Record{}, api.ErrLong, 0
	}
	var r reader
	// The copy is for R4: the record keeps parts of the lines.
	if at := refused(strings.Clone(s), r.take); at > 0 {
		return api.Record{}, api.ErrForm, at
	}
	if err, _ := Check(r.record); err != api.OK {
		return api.Record{}, err, 0
	}
	return r.record, api.OK, 0
}

// refused gives the lines of s to take, one by one, and returns the number of the
// first one that has no end or that take does not accept, or 0 if there is none.
func refused(s string, take func(line string) bool) int {
	if s == "" {
		return 1 // the only line that can be missing is the first one
	}
	at := 0
	for line := range strings.Lines(s) {
		at++
		body, ended := strings.CutSuffix(line, "\n")
		if !ended || !take(body) {
			return at
		}
	}
	return 0
}

// reader builds a record of the lines of its string.
type reader struct {
	record api.Record
	last   int // the kind of the line that was taken last
}

// take adds what a line says, and reports whether the line has a form that it may have
// behind those taken before.
func (r *reader) take(line string) bool {
	for _, l := range layouts {
		if r.last < l.from || r.last > l.to {
			continue
		}
		if parts, is := l.cut(line); is {
			r.last = l.kind
			return r.add(parts)
		}
	}
	return false
}

// cut returns the parts of a line, and whether it is laid out so.
func (l layout) cut(line string) ([]string, bool) {
	most := -1
	if l.open {
		most = l.parts
	}
	parts := strings.SplitN(line, " ", most)
	number := len(parts) == l.parts || l.more && len(parts) > l.parts
	return parts, number && parts[0] == l.word && !slices.Contains(parts, "")
}

// add adds what the parts of a line of the last kind say, and reports whether they can
// stand in such a line.
func (r *reader) add(parts []string) bool {
	x := &r.record
	switch r.last {
	case head:
		v, err := version.Parse(parts[2])
		x.Name, x.V = parts[1], v
		return err == api.OK
	case need:
		x.Needs = append(x.Needs, api.Need{})
	case wish:
		n := lastOf(x.Needs)
		n.Any = append(n.Any, api.Wish{Name: parts[1], Features: features(parts[2]), Bare: parts[3] == bare, Range: parts[4]})
		return parts[3] == bare || parts[3] == full
	case needWhen:
		lastOf(x.Needs).When = parts[1]
	case needOption:
		lastOf(x.Needs).Option = parts[1]
	case bar:
		x.Bars = append(x.Bars, api.Bar{Name: parts[1], Range: parts[2]})
	case barWhen:
		lastOf(x.Bars).When = parts[1]
	case ability:
		x.Features = append(x.Features, api.Feature{Name: parts[1], Of: append([]string(nil), parts[2:]...)})
	}
	return true
}

// lastOf returns the last element of l, which is not empty.
func lastOf[T any](l []T) *T {
	return &l[len(l)-1]
}

// features returns the features of a wish, which are written as s.
func features(s string) []string {
	if s == noFeatures {
		return nil
	}
	return strings.Split(s, ",")
}

// text returns the string of r, which is valid but for the length of that string.
func text(r api.Record) string {
	var w writer
	w.line(packageWord, r.Name, version.Print(r.V))
	for _, n := range r.Needs {
		w.need(n)
	}
	for _, b := range r.Bars {
		w.line(barWord, b.Name, b.Range)
		w.maybe(whenWord, b.When)
	}
	for _, f := range r.Features {
		w.line(append([]string{featureWord, f.Name}, f.Of...)...)
	}
	return w.String()
}

// writer builds the string of a record.
type writer struct {
	strings.Builder
}

// line adds a line of these words.
func (w *writer) line(words ...string) {
	w.WriteString(ident.Join(words, ' '))
	w.WriteByte('\n')
}

// maybe adds a line of a word and s, if s is not empty.
func (w *writer) maybe(word, s string) {
	if s != "" {
		w.line(word, s)
	}
}

// need adds the lines of n.
func (w *writer) need(n api.Need) {
	w.line(needWord)
	for _, x := range n.Any {
		asked, extent := noFeatures, full
		if len(x.Features) > 0 {
			asked = ident.Join(x.Features, ',')
		}
		if x.Bare {
			extent = bare
		}
		w.line(anyWord, x.Name, asked, extent, x.Range)
	}
	w.maybe(whenWord, n.When)
	w.maybe(optionWord, n.Option)
}

package mark

import (
	"linchpin/api"
	"linchpin/ident"
)

// The words of a marker's string, beside its keys and values.
const (
	equal   = "="
	unequal = "!="
	negate  = "not"
	both    = "and"
	either  = "or"
	open    = "("
	shut    = ")"
)

// keys are the names of a platform's keys.
var keys = [api.Keys]string{"os", "arch", "abi"}

// Parse returns the marker that s denotes; or api.ErrLong if s has more than
// api.MaxMark bytes, or api.ErrMark if s denotes no marker that is valid.
func Parse(s string) (api.Mark, api.Errno) {
	if len(s) > api.MaxMark {
		return api.Mark{}, api.ErrLong
	}
	if s == "" {
		return api.Mark{}, api.OK
	}
	r := reader{words: ident.Split(s, ' ')} // which are new memory, so a node may keep them
	r.expression()
	m := api.Mark{Nodes: r.nodes}
	// The reader leaves it to May to refuse keys and values that are none, and more
	// nodes than there may be.
	if r.wrong || len(r.words) > 0 || !May(m) {
		return api.Mark{}, api.ErrMark
	}
	return m, api.OK
}

// Print returns the string of m, or the empty string if m is not valid.
func Print(m api.Mark) string {
	if len(m.Nodes) == 0 || !tree(m.Nodes) {
		return ""
	}
	w := writer{nodes: m.Nodes}
	w.node(len(m.Nodes) - 1)
	s := ident.Join(w.words, ' ')
	if len(s) > api.MaxMark {
		return ""
	}
	return s
}

// reader builds a marker of words. What it builds is one only if wrong is false and
// no words are left.
type reader struct {
	builder
	words []string
	wrong bool
}

// expression reads operands of `or`.
func (r *reader) expression() {
	r.chain(either, api.One, (*reader).product)
}

// product reads operands of `and`.
func (r *reader) product() {
	r.chain(both, api.Both, (*reader).operand)
}

// chain reads what operand reads, once or several times with the word between, and
// groups it from the left.
func (r *reader) chain(word string, op int, operand func(*reader)) {
	operand(r)
	for r.skip(word) {
		a := r.last()
		operand(r)
		r.join(op, a)
	}
}

// operand reads what needs no parentheses, or something in parentheses.
func (r *reader) operand() {
	switch {
	case r.skip(negate):
		r.operand()
		r.not()
	case r.skip(open):
		r.expression()
		if !r.skip(shut) {
			r.wrong = true
		}
	default:
		r.comparison()
	}
}

// comparison reads a key, a sign and a value.
func (r *reader) comparison() {
	if len(r.words) < 3 {
		r.wrong = true
		return
	}
	key, sign, value := r.words[0], r.words[1], r.words[2]
	r.words = r.words[3:]
	r.is(keyOf(key), value)
	switch sign {
	case equal:
	case unequal:
		r.not()
	default:
		r.wrong = true
	}
}

// skip passes over the next word if it is this one, and reports whether it is.
func (r *reader) skip(word string) bool {
	if len(r.words) == 0 || r.words[0] != word {
		return false
	}
	r.words = r.words[1:]
	return true
}

// keyOf returns the key whose name is s, or -1 if there is none.
func keyOf(s string) int {
	for key, name := range keys {
		if name == s {
			return key
		}
	}
	return -1
}

// writer lists the words of the string of a valid tree of nodes.
type writer struct {
	nodes []api.Node
	words []string
}

// node adds the words of node i.
func (w *writer) node(i int) {
	switch n := w.nodes[i]; n.Op {
	case api.Is:
		w.comparison(n, equal)
	case api.Not:
		if a := w.nodes[n.A]; a.Op == api.Is {
			w.comparison(a, unequal)
			return
		}
		w.words = append(w.words, negate)
		w.operand(n.A, n.Op)
	case api.Both:
		w.pair(n, both)
	case api.One:
		w.pair(n, either)
	}
}

// comparison adds a key, a sign and a value.
func (w *writer) comparison(n api.Node, sign string) {
	w.words = append(w.words, keys[n.Key], sign, n.Text)
}

// pair adds the operands of n with the word between.
func (w *writer) pair(n api.Node, word string) {
	w.operand(n.A, n.Op)
	w.words = append(w.words, word)
	// Operators of the same kind group from the left, so B must bind more tightly.
	w.operand(n.B, n.Op-1)
}

// operand adds the words of node i, in parentheses if its operator is greater than
// the loosest that needs none: the greater an operator, the less tightly it binds.
func (w *writer) operand(i, loosest int) {
	if w.nodes[i].Op <= loosest {
		w.node(i)
		return
	}
	w.words = append(w.words, open)
	w.node(i)
	w.words = append(w.words, shut)
}

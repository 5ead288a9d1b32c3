package cond

import (
	"strings"

	"jalousie/api"
	"jalousie/rule"
)

// asker is who is asked of each part whether it is a leaf.
type asker func(v api.Value) (api.Cond, bool)

// apart tells an asker that stands between the reader and leaf: leaf may do with a part what it likes, and tell one condition again and again; neither what is still to be read nor the answer shares memory with that.
func apart(leaf asker) asker {
	if leaf == nil {
		return func(api.Value) (api.Cond, bool) { return api.Cond{}, false }
	}
	return func(v api.Value) (api.Cond, bool) {
		c, ok := leaf(rule.Trim([]api.Value{v})[0])
		if ok && Same(c, c) { // only what holds itself is not, and of that there is no copy
			c = own(c)
		}
		return c, ok
	}
}

// reader is what is left of the component values of one condition.
type reader struct {
	rest   []api.Value
	leaf   asker
	barred bool
}

// read tells the condition that l is; how deep that goes rule.May has asked.
func read(l []api.Value, leaf asker) (c api.Cond, ok bool) {
	r := &reader{rest: l, leaf: leaf}
	defer func() {
		// A panic that is not the reader's own is leaf's: it goes on.
		if r.barred {
			_ = recover()
		}
	}()
	return r.whole(), true
}

// bar gives up: there is no condition of which the text is the beginning.
func (r *reader) bar() {
	r.barred = true
	panic("barred")
}

// next passes over TSpace. At the end it tells the zero value, whose token is of no kind, so that nobody need ask for the end first.
func (r *reader) next() api.Value {
	for len(r.rest) > 0 && r.rest[0].Tok.Kind == api.TSpace {
		r.rest = r.rest[1:]
	}
	if len(r.rest) == 0 {
		return api.Value{}
	}
	return r.rest[0]
}

// word takes a TIdent of this name, if it comes.
func (r *reader) word(name string) bool {
	t := r.next().Tok
	// Of not, and, or no letter has one of another alphabet that is folded to it.
	if t.Kind != api.TIdent || !strings.EqualFold(t.Text, name) {
		return false
	}
	r.rest = r.rest[1:]
	return true
}

func (r *reader) whole() api.Cond {
	c := r.condition()
	r.next()
	if len(r.rest) > 0 {
		r.bar()
	}
	return c
}

func (r *reader) condition() api.Cond {
	if r.word("not") {
		return api.Cond{Kind: api.KNot, Kids: []api.Cond{r.part()}}
	}
	first := r.part()
	switch {
	case r.word("and"):
		return r.joined(api.KAnd, first, "and")
	case r.word("or"):
		return r.joined(api.KOr, first, "or")
	}
	return first
}

// joined reads on behind the first part and the word.
func (r *reader) joined(kind int, first api.Cond, word string) api.Cond {
	parts := []api.Cond{first, r.part()}
	for r.word(word) {
		parts = append(parts, r.part())
	}
	return api.Cond{Kind: kind, Kids: parts}
}

func (r *reader) part() api.Cond {
	v := r.next()
	if v.Tok.Kind != api.TOpenParen && v.Tok.Kind != api.TFunc {
		r.bar()
	}
	r.rest = r.rest[1:]
	if c, ok := r.leaf(v); ok {
		return c
	}
	if v.Tok.Kind == api.TOpenParen {
		if c, ok := read(v.Kids, r.leaf); ok {
			return c
		}
	}
	return api.Cond{Kind: api.KLeaf, Leaf: api.Leaf{Kind: api.LUnknown}}
}

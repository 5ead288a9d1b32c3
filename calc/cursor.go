package calc

import "jalousie/api"

// cursor is what is left of some component values that may be.
type cursor struct {
	rest []api.Value
}

func (c *cursor) done() bool {
	return len(c.rest) == 0
}

// next looks at the next value. At the end it tells the zero one, whose token is of no kind, so that nobody need ask for the end first.
func (c *cursor) next() api.Value {
	if c.done() {
		return api.Value{}
	}
	return c.rest[0]
}

func (c *cursor) take() api.Value {
	v := c.next()
	if !c.done() {
		c.rest = c.rest[1:]
	}
	return v
}

// spaces takes the TSpace that come, and tells whether there was one.
func (c *cursor) spaces() bool {
	found := false
	for c.next().Tok.Kind == api.TSpace {
		c.take()
		found = true
	}
	return found
}

// delim takes a TDelim of this text, if it comes.
func (c *cursor) delim(text string) bool {
	t := c.next().Tok
	if t.Kind != api.TDelim || t.Text != text {
		return false
	}
	c.take()
	return true
}

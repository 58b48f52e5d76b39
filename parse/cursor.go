package parse

import (
	"slices"

	"furcate/api"
	"furcate/lex"
)

// cursor goes over a source's tokens; with the first error it stands at the end, so that whoever reads on comes to an end too.
type cursor struct {
	src    string
	tokens []api.Token
	at     int
	place  int
	fault  api.Errno
}

func (c *cursor) now() api.Token { return c.tokens[c.at] }

func (c *cursor) line() int { return lex.Line(c.src, c.now().At) }

func (c *cursor) next() {
	if c.at < len(c.tokens)-1 {
		c.at++
	}
}

// is tells whether the token here is one of these signs and words; a text that looks like one is none.
func (c *cursor) is(texts ...string) bool {
	k := c.now()
	return (k.Kind == api.TkSign || k.Kind == api.TkWord) && slices.Contains(texts, k.Text)
}

// calls tells whether a call begins here.
func (c *cursor) calls() bool {
	if c.now().Kind != api.TkName {
		return false
	}
	behind := c.tokens[c.at+1]
	return behind.Kind == api.TkSign && behind.Text == "("
}

func (c *cursor) fail(e api.Errno) {
	if c.fault == api.OK {
		c.place, c.fault = c.now().At, e
		c.at = len(c.tokens) - 1
	}
}

func (c *cursor) want(text string) {
	if !c.is(text) {
		c.fail(api.ErrSyntax)
		return
	}
	c.next()
}

func (c *cursor) name() string {
	k := c.now()
	if k.Kind != api.TkName {
		c.fail(api.ErrSyntax)
		return ""
	}
	c.next()
	return k.Text
}

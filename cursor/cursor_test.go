package cursor_test

import (
	"math"
	"slices"
	"testing"

	"cotillion/api"
	"cotillion/cursor"
	"cotillion/lex"
)

// begin returns a Cursor at the first token of a text, and the tokens.
func begin(t *testing.T, text string) (cursor.Cursor, []api.Token) {
	t.Helper()
	l, f := lex.All(text)
	if f.Code != api.OK {
		t.Fatal(text, f)
	}
	return cursor.New(l, 0), l
}

// at expects the place of a Cursor, and what it was so far.
func at(t *testing.T, c cursor.Cursor, place int, fault api.Fault) {
	t.Helper()
	got, next, f := cursor.Result(c, "some")
	want := "some"
	if fault.Code != api.OK {
		want, place = "", 0
	}
	if got != want || next != place || f != fault || c.OK() != (fault.Code == api.OK) {
		t.Errorf("Result = %q, %d, %v; want %q, %d, %v", got, next, f, want, place, fault)
	}
}

func TestGoesOn(t *testing.T) {
	c, l := begin(t, "on e -> 7 x")
	if c.Has("off") || c.Has("e") || !c.Has("on") || c.Skip("e") || c.Next() != l[0] {
		t.Error("on is not the next token")
	}
	if !c.Skip("on") || c.Name() != "e" || !c.Has("->") {
		t.Error("-> is not the next token")
	}
	c.Take("->")
	if c.Number() != 7 || c.Next() != l[4] {
		t.Error("x is not the next token")
	}
	at(t, c, 4, api.Fault{})
	if tokens, place := c.Place(); place != 4 || !slices.Equal(tokens, l) {
		t.Error(tokens, place)
	}
	c.Follow(2, api.Fault{})
	at(t, c, 2, api.Fault{})
}

func TestUnexpected(t *testing.T) {
	for text, takes := range map[string][]func(c *cursor.Cursor){
		"->": {func(c *cursor.Cursor) { c.Name() }, func(c *cursor.Cursor) { c.Number() }, func(c *cursor.Cursor) { c.Take(">") }, func(c *cursor.Cursor) { c.Take("on") }},
		"on": {func(c *cursor.Cursor) { c.Name() }, func(c *cursor.Cursor) { c.Number() }, func(c *cursor.Cursor) { c.Take("off") }},
		"7":  {func(c *cursor.Cursor) { c.Name() }, func(c *cursor.Cursor) { c.Take("on") }},
		"e":  {func(c *cursor.Cursor) { c.Number() }, func(c *cursor.Cursor) { c.Take("on") }},
		"":   {func(c *cursor.Cursor) { c.Name() }, func(c *cursor.Cursor) { c.Number() }, func(c *cursor.Cursor) { c.Take("on") }},
	} {
		code := api.ErrToken
		if text == "" {
			code = api.ErrEnd
		}
		for _, take := range takes {
			c, _ := begin(t, "  "+text)
			take(&c)
			at(t, c, 0, api.Fault{Code: code, At: 2})
		}
	}
}

func TestFirstErrorStays(t *testing.T) {
	c, _ := begin(t, "{ e = 7 }")
	c.Take("{")
	c.Fail(api.ErrDeep)
	if c.Next().Kind != api.TEnd || c.Has("e") || c.Skip("e") || c.Name() != "" || c.Number() != 0 {
		t.Error("there are tokens behind an error")
	}
	c.Take("e")
	c.Fail(api.ErrMany)
	c.Follow(3, api.Fault{Code: api.ErrToken, At: 3})
	c.Follow(4, api.Fault{})
	at(t, c, 0, api.Fault{Code: api.ErrDeep, At: 2})
	c, _ = begin(t, "{ e = 7 }")
	c.Follow(0, api.Fault{Code: api.ErrRange, At: 6})
	c.Take("{")
	at(t, c, 0, api.Fault{Code: api.ErrRange, At: 6})
}

func TestOutside(t *testing.T) {
	_, l := begin(t, "e")
	for _, place := range []int{-1, math.MinInt, 2, math.MaxInt} {
		c := cursor.New(l, place)
		if c.Next() != (api.Token{Kind: api.TEnd}) || c.Name() != "" {
			t.Error("a token at", place)
		}
		at(t, c, 0, api.Fault{Code: api.ErrEnd})
	}
}

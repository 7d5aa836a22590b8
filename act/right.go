package act

import (
	"slices"
	"strings"

	"cotillion/api"
	"cotillion/expr"
	"cotillion/lex"
)

// parts is what the actions of a kind have.
type parts struct {
	name, event, rounds bool
	least, most         int // how many expressions
	then, other         bool
	spaces              int // how many spaces its words need between them
}

// partsOf returns what the actions of a kind have; those of no kind have nothing.
func partsOf(kind int) parts {
	switch kind {
	case api.ASet:
		return parts{name: true, least: 1, most: 1}
	case api.ARaise:
		return parts{event: true, most: 1, spaces: 1}
	case api.ASend:
		return parts{name: true, event: true, most: 1, spaces: 2}
	case api.AArm:
		return parts{name: true, least: 1, most: 1, spaces: 1}
	case api.ACancel:
		return parts{name: true, spaces: 1}
	case api.AIf:
		return parts{least: 1, most: 1, then: true, other: true}
	case api.ALoop:
		return parts{rounds: true, then: true, spaces: 1}
	}
	return parts{}
}

// fits reports whether l can be read as the block that is the open-th one in one another, and takes the bytes of its
// shortest text from room.
func fits(l []api.Act, open int, room *int) bool {
	*room -= len("{}")
	if open > api.MaxBlock || *room < 0 {
		return false
	}
	for _, a := range l {
		if !shaped(a) {
			return false
		}
		*room -= shortest(a)
		if *room < 0 {
			return false
		}
		if partsOf(a.Kind).then && !fits(a.Then, open+1, room) {
			return false
		}
		if len(a.Else) > 0 && !fits(a.Else, open+1, room) {
			return false
		}
	}
	return true
}

// shaped reports whether a has what its kind has, and nothing else, whatever its blocks are.
func shaped(a api.Act) bool {
	p := partsOf(a.Kind)
	return a.Kind >= api.ASet && a.Kind <= api.ALoop &&
		named(a.Name, p.name) && named(a.Event, p.event) &&
		(a.N == 0 || a.N > 0 && p.rounds) &&
		(len(a.Then) == 0 || p.then) && (len(a.Else) == 0 || p.other) &&
		len(a.X) >= p.least && len(a.X) <= p.most && !slices.ContainsFunc(a.X, wrong)
}

// wrong reports whether no source has e in it.
func wrong(e api.Expr) bool {
	return !expr.Right(e)
}

// named reports whether s is a name, or empty where there is none.
func named(s string, is bool) bool {
	if !is {
		return s == ""
	}
	return lex.Name(s)
}

// shortest returns how many bytes the shortest text of an action has, but for its blocks.
func shortest(a api.Act) int {
	s := head(a)
	n := len(s) - strings.Count(s, " ") + partsOf(a.Kind).spaces
	if len(a.Else) > 0 {
		n += len("else")
	}
	return n
}

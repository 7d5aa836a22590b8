package expr_test

import (
	"math"
	"math/rand"
	"slices"
	"strconv"
	"strings"
	"testing"

	"cotillion/api"
	"cotillion/expr"
	"cotillion/lex"
)

// ops has the operators between two operands, with their kinds and levels, once more.
var ops = []struct {
	sign        string
	kind, level int
}{
	{"||", api.EOr, 1}, {"&&", api.EAnd, 2},
	{"<", api.ELt, 3}, {"<=", api.ELe, 3}, {">", api.EGt, 3}, {">=", api.EGe, 3}, {"==", api.EEq, 3}, {"!=", api.ENe, 3},
	{"+", api.EAdd, 4}, {"-", api.ESub, 4},
	{"*", api.EMul, 5}, {"/", api.EDiv, 5}, {"%", api.EMod, 5},
}

const keywords = "system age chart steps fuel var port timer state parallel history deep entry exit on auto raise send arm cancel " +
	"if else loop in inst quantum ext prio chan cap cert insts chans cell off"

func num(n int64) api.Expr                   { return api.Expr{Kind: api.ENum, N: n} }
func name(s string) api.Expr                 { return api.Expr{Kind: api.EVar, Name: s} }
func in(s string) api.Expr                   { return api.Expr{Kind: api.EIn, Name: s} }
func arg() api.Expr                          { return api.Expr{Kind: api.EArg} }
func of(kind int, kids ...api.Expr) api.Expr { return api.Expr{Kind: kind, Kids: kids} }

// placed is e at a place.
func placed(at int, e api.Expr) api.Expr {
	e.At = at
	return e
}

// tokens returns the tokens of a text that has some.
func tokens(t *testing.T, text string) []api.Token {
	t.Helper()
	l, f := lex.All(text)
	if f.Code != api.OK {
		t.Fatalf("lex.All(%.80q): %v", text, f)
	}
	return l
}

// equal reports whether two trees are equal in all fields, places too.
func equal(a, b api.Expr) bool {
	return a.Kind == b.Kind && a.N == b.N && a.Name == b.Name && a.At == b.At && slices.EqualFunc(a.Kids, b.Kids, equal)
}

// alike reports whether two trees are equal but for their places.
func alike(a, b api.Expr) bool {
	return equal(bare(a), bare(b))
}

// bare is a copy of e without places.
func bare(e api.Expr) api.Expr {
	e.At = 0
	kids := make([]api.Expr, 0, len(e.Kids))
	for _, kid := range e.Kids {
		kids = append(kids, bare(kid))
	}
	e.Kids = kids
	return e
}

// expect holds what Parse returns against what it should return.
func expect(t *testing.T, l []api.Token, at int, want api.Expr, end int, fault api.Fault) {
	t.Helper()
	e, got, f := expr.Parse(l, at)
	if f != fault || got != end || !equal(e, want) {
		t.Fatalf("Parse(%v, %d) = %v, %d, %v; want %v, %d, %v", l, at, e, got, f, want, end, fault)
	}
}

// read expects that a text is an expression from its first token on, with end as the index of the first token after it.
func read(t *testing.T, text string, want api.Expr, end int) {
	t.Helper()
	expect(t, tokens(t, text), 0, want, end, api.Fault{})
}

// refuse expects that Parse returns just a Fault.
func refuse(t *testing.T, text string, code api.Errno, at int) {
	t.Helper()
	expect(t, tokens(t, text), 0, api.Expr{}, 0, api.Fault{Code: code, At: at})
}

// parsed returns the expression that a text is.
func parsed(t *testing.T, text string) api.Expr {
	t.Helper()
	l := tokens(t, text)
	e, end, f := expr.Parse(l, 0)
	if f != (api.Fault{}) || end != len(l)-1 {
		t.Fatalf("Parse(%.80q) ends at %d of %d, %v", text, end, len(l), f)
	}
	return e
}

// isOp returns the kind and the level of a sign between two operands, or 0 and 9.
func isOp(t api.Token) (int, int) {
	for _, o := range ops {
		if t.Kind == api.TSign && t.Text == o.sign {
			return o.kind, o.level
		}
	}
	return 0, 9
}

// isName reports whether a token is a name and no keyword.
func isName(t api.Token) bool {
	return t.Kind == api.TName && !slices.Contains(strings.Fields(keywords), t.Text)
}

// scan returns the index of the first token after the longest expression, or the error of the first token that can't
// stand there. It reads no trees: it only keeps the brackets and prefix operators that are open.
func scan(l []api.Token, at int) (int, api.Fault) {
	wrong := func(t api.Token) (int, api.Fault) {
		if t.Kind == api.TEnd {
			return 0, api.Fault{Code: api.ErrEnd, At: t.At}
		}
		return 0, api.Fault{Code: api.ErrToken, At: t.At}
	}
	var open string               // a ( for each bracket, a - for each prefix operator
	compared := []bool{false}     // whether there is a comparison already, in each bracket, since the last && or ||
	ready := func(next int) int { // an operand ends here, and all prefix operators in front of it
		open = strings.TrimRight(open, "-")
		return next
	}
	operand := true
	for {
		t := l[at]
		_, level := isOp(t)
		switch {
		case operand && (t.Text == "(" || t.Text == "-" || t.Text == "!"):
			if len(open) == 12 {
				return 0, api.Fault{Code: api.ErrDeep, At: t.At}
			}
			if t.Text == "(" {
				open, compared = open+"(", append(compared, false)
			} else {
				open += "-"
			}
			at++
		case operand && t.Text == "in":
			for k, s := range []string{"(", "", ")"} {
				t := l[at+1+k]
				if s != "" && t.Text != s || s == "" && !isName(t) {
					return wrong(t)
				}
			}
			at, operand = ready(at+4), false
		case operand && (t.Kind == api.TNum || t.Text == "$" || isName(t)):
			at, operand = ready(at+1), false
		case operand:
			return wrong(t)
		case t.Text == ")" && open != "":
			open, compared = open[:len(open)-1], compared[:len(compared)-1]
			at = ready(at + 1)
		case level < 3, level == 3 && !compared[len(compared)-1], level == 4, level == 5:
			if level <= 3 {
				compared[len(compared)-1] = level == 3
			}
			at, operand = at+1, true
		case open != "":
			return wrong(t)
		default:
			return at, api.Fault{}
		}
	}
}

// tree returns the tree of tokens that are an expression: it is split at the operator that binds least, the last one of these.
func tree(l []api.Token) api.Expr {
	split, kind, least, depth := -1, 0, 9, 0
	for k, t := range l {
		switch t.Text {
		case "(":
			depth++
		case ")":
			depth--
		}
		after := k > 0 && (l[k-1].Kind != api.TSign || l[k-1].Text == ")" || l[k-1].Text == "$")
		if found, level := isOp(t); depth == 0 && after && level <= least {
			split, kind, least = k, found, level
		}
	}
	first := l[0]
	switch {
	case split > 0 && kind != 0:
		return placed(l[split].At, of(kind, tree(l[:split]), tree(l[split+1:])))
	case first.Text == "-":
		return placed(first.At, of(api.ENeg, tree(l[1:])))
	case first.Text == "!":
		return placed(first.At, of(api.ENot, tree(l[1:])))
	case first.Text == "(":
		return tree(l[1 : len(l)-1])
	case first.Text == "in":
		return placed(first.At, in(l[2].Text))
	case first.Text == "$":
		return placed(first.At, arg())
	case first.Kind == api.TNum:
		return placed(first.At, num(first.N))
	}
	return placed(first.At, name(first.Text))
}

// compare holds Parse against scan and tree, from a token on.
func compare(t *testing.T, text string, at int) {
	t.Helper()
	l := tokens(t, text)
	end, f := scan(l, at)
	if f.Code != api.OK {
		expect(t, l, at, api.Expr{}, 0, f)
		return
	}
	expect(t, l, at, tree(l[at:end]), end, api.Fault{})
}

// each calls f with begun and with every text that goes on from it with at most most of the parts.
func each(begun string, parts []string, most int, f func(string)) {
	f(begun)
	if most == 0 {
		return
	}
	for _, p := range parts {
		each(begun+p+" ", parts, most-1, f)
	}
}

// grown returns a tree by chance with at most so many operators in one another.
func grown(random *rand.Rand, depth int) api.Expr {
	if depth == 0 || random.Intn(5) == 0 {
		return []api.Expr{num(0), num(7), num(math.MaxInt64), name("a"), name("_Z9"), name("inn"), arg(), in("s")}[random.Intn(8)]
	}
	if random.Intn(4) == 0 {
		return of([]int{api.ENeg, api.ENot}[random.Intn(2)], grown(random, depth-1))
	}
	return of(ops[random.Intn(len(ops))].kind, grown(random, depth-1), grown(random, depth-1))
}

// every returns all trees with at most so many operators in one another.
func every(depth int) []api.Expr {
	if depth == 0 {
		return []api.Expr{name("a")}
	}
	below := every(depth - 1)
	l := slices.Clone(below)
	for _, a := range below {
		l = append(l, of(api.ENeg, a), of(api.ENot, a))
		for _, b := range below {
			for _, o := range ops {
				l = append(l, of(o.kind, a, b))
			}
		}
	}
	return l
}

// full is the text of a tree of any shape with all operands in brackets.
func full(e api.Expr) string {
	inner := func(k int) string { return "(" + full(e.Kids[k]) + ")" }
	switch {
	case e.Kind == api.ENum:
		return strconv.FormatInt(e.N, 10)
	case e.Kind == api.EVar:
		return e.Name
	case e.Kind == api.EArg:
		return "$"
	case e.Kind == api.EIn:
		return "in(" + e.Name + ")"
	case e.Kind == api.ENeg && len(e.Kids) > 0:
		return "-" + inner(0)
	case e.Kind == api.ENot && len(e.Kids) > 0:
		return "!" + inner(0)
	}
	for _, o := range ops {
		if o.kind == e.Kind && len(e.Kids) > 1 {
			return inner(0) + o.sign + inner(1)
		}
	}
	return ""
}

// chain is a tree of n operands from the left, with one operator between them.
func chain(kind, n int, operand api.Expr) api.Expr {
	e := operand
	for range n - 1 {
		e = of(kind, e, operand)
	}
	return e
}

// nest is a tree with n prefix operators in front of e.
func nest(n int, e api.Expr) api.Expr {
	for range n {
		e = of(api.ENeg, e)
	}
	return e
}

// right expects what Right says of a tree.
func right(t *testing.T, e api.Expr, want bool) {
	t.Helper()
	if got := expr.Right(e); got != want {
		t.Errorf("Right(%.300s) = %t; want %t", full(e), got, want)
	}
}

// prints expects the text of a tree.
func prints(t *testing.T, e api.Expr, want string) {
	t.Helper()
	if got := expr.Print(e); got != want {
		t.Errorf("Print(%s) = %q; want %q", full(e), got, want)
	}
}

func TestP7_1Examples(t *testing.T) {
	inner := placed(4, of(api.ESub, placed(3, num(2)), placed(5, num(3))))
	read(t, "1-(2-3)-((4))", placed(7, of(api.ESub, placed(1, of(api.ESub, num(1), inner)), placed(10, num(4)))), 13)
	read(t, "-(-x) * (y)", placed(6, of(api.EMul, of(api.ENeg, placed(2, of(api.ENeg, placed(3, name("x"))))), placed(9, name("y")))), 9)
	read(t, "a < b < c", placed(2, of(api.ELt, name("a"), placed(4, name("b")))), 3)
}

func TestP7_1Single(t *testing.T) {
	read(t, "0", num(0), 1)
	read(t, " 12 ", placed(1, num(12)), 1)
	read(t, "9223372036854775807", num(math.MaxInt64), 1)
	read(t, "$", arg(), 1)
	read(t, "x", name("x"), 1)
	read(t, "_Z9", name("_Z9"), 1)
	read(t, strings.Repeat("n", 24), name(strings.Repeat("n", 24)), 1)
	read(t, "in(s)", in("s"), 4)
	read(t, "# a\n in # b\n ( s\n)", placed(5, in("s")), 4)
	read(t, "(x)", placed(1, name("x")), 3)
	read(t, "((in(s)))", placed(2, in("s")), 8)
	read(t, "-9223372036854775807", of(api.ENeg, placed(1, num(math.MaxInt64))), 2)
	read(t, "!-x", of(api.ENot, placed(1, of(api.ENeg, placed(2, name("x"))))), 3)
	for _, word := range strings.Fields(keywords) {
		read(t, word+"x", name(word+"x"), 1)
		read(t, strings.ToUpper(word), name(strings.ToUpper(word)), 1)
	}
}

func TestP7_1Operators(t *testing.T) {
	a, b, c := name("a"), name("b"), name("c")
	for _, o := range ops {
		two := placed(1, of(o.kind, a, placed(1+len(o.sign), b)))
		read(t, "a"+o.sign+"b", two, 3)
		for _, p := range ops {
			text := "a " + o.sign + " b " + p.sign + " c"
			first, second := 2, 5+len(o.sign)
			b, c := placed(3+len(o.sign), b), placed(6+len(o.sign)+len(p.sign), c)
			switch {
			case o.level == 3 && p.level == 3:
				read(t, text, placed(first, of(o.kind, a, b)), 3)
			case o.level >= p.level:
				read(t, text, placed(second, of(p.kind, placed(first, of(o.kind, a, b)), c)), 5)
			default:
				read(t, text, placed(first, of(o.kind, a, placed(second, of(p.kind, b, c)))), 5)
			}
		}
	}
}

func TestP7_1FirstTokenAfter(t *testing.T) {
	a := name("a")
	for _, after := range strings.Fields("= ) ] } { [ ( ; , . : -> ! $ 7 b in if < <= > >= == !=") {
		if _, level := isOp(api.Token{Kind: api.TSign, Text: after}); level == 3 {
			read(t, "a < b "+after, placed(2, of(api.ELt, a, placed(4, name("b")))), 3)
			read(t, "a < b "+after+" c", placed(2, of(api.ELt, a, placed(4, name("b")))), 3)
			continue
		}
		read(t, "a "+after, a, 1)
		read(t, "a + b "+after, placed(2, of(api.EAdd, a, placed(4, name("b")))), 3)
	}
	// A comparison can stand behind each && and ||, and in each bracket.
	for _, text := range []string{"a < b && c < a", "a < b || c < a && b < c", "(a < b) < c", "a < (b < c)", "(a < b) + (b < c) < (c < a)", "!(a < b) == c"} {
		parsed(t, text)
		compare(t, text, 0)
	}
}

func TestP7_1InTheMiddle(t *testing.T) {
	const text = "if (a < -b && in(c)) { x = (2 + $) * 3; } ("
	l := tokens(t, text)
	expect(t, l, 2, placed(11, of(api.EAnd, placed(6, of(api.ELt, placed(4, name("a")), placed(8, of(api.ENeg, placed(9, name("b")))))), placed(14, in("c")))), 11, api.Fault{})
	for at := range l {
		compare(t, text, at)
	}
	expect(t, l, len(l)-1, api.Expr{}, 0, api.Fault{Code: api.ErrEnd, At: len(text)})
}

func TestP7_1Unexpected(t *testing.T) {
	refuse(t, "", api.ErrEnd, 0)
	refuse(t, " # no\n ", api.ErrEnd, 7)
	for _, s := range strings.Fields("+ * / % < <= > >= == != && || = ) ] } { [ ; , . : ->") {
		refuse(t, s+" a", api.ErrToken, 0)
		refuse(t, "("+s, api.ErrToken, 1)
		refuse(t, "- "+s+" a", api.ErrToken, 2)
		refuse(t, "a + "+s, api.ErrToken, 4)
		refuse(t, "in "+strings.TrimSuffix(s, "(")+" a", api.ErrToken, 3)
		refuse(t, "in("+s, api.ErrToken, 3)
		if s != ")" {
			refuse(t, "in(a "+s, api.ErrToken, 5)
		}
	}
	for _, s := range strings.Fields(keywords) {
		refuse(t, "in( "+s+" )", api.ErrToken, 4)
		if s != "in" {
			refuse(t, s, api.ErrToken, 0)
			refuse(t, "!"+s, api.ErrToken, 1)
			refuse(t, "a && "+s, api.ErrToken, 5)
			refuse(t, "("+s+")", api.ErrToken, 1)
		}
	}
	for _, o := range ops {
		refuse(t, "a "+o.sign, api.ErrEnd, 2+len(o.sign))
		refuse(t, "(a "+o.sign+" )", api.ErrToken, 4+len(o.sign))
	}
}

func TestP7_1Brackets(t *testing.T) {
	for _, text := range []string{"(", "(a", "((a)", "(a + ", "-", "!", "--", "-(", "in", "in(", "in(a", "(in(a)", "a + (b", "a * -"} {
		refuse(t, text, api.ErrEnd, len(text))
		refuse(t, text+" ;", api.ErrToken, len(text)+1)
	}
	refuse(t, "()", api.ErrToken, 1)
	refuse(t, "(a b)", api.ErrToken, 3)
	refuse(t, "(a < b < c)", api.ErrToken, 7)
	refuse(t, "(a]", api.ErrToken, 2)
	refuse(t, "(a = b)", api.ErrToken, 3)
	refuse(t, "(a, b)", api.ErrToken, 2)
	refuse(t, "(a !b)", api.ErrToken, 3)
	refuse(t, "in a", api.ErrToken, 3)
	refuse(t, "in((a))", api.ErrToken, 3)
	refuse(t, "in(a b)", api.ErrToken, 5)
	refuse(t, "in(in(a))", api.ErrToken, 3)
	refuse(t, "in(12)", api.ErrToken, 3)
	refuse(t, "in($)", api.ErrToken, 3)
	read(t, "a)", name("a"), 1)
	read(t, "a(b)", name("a"), 1)
}

func TestP7_1Deep(t *testing.T) {
	open := func(n int) string { return strings.Repeat("(", n) }
	shut := func(n int) string { return strings.Repeat(")", n) }
	for n := range 13 {
		for _, sign := range []string{"-", "!"} {
			before := open(12-n) + strings.Repeat(sign, n)
			for _, text := range []string{before + "a" + shut(12-n), before + "in(a)" + shut(12-n)} {
				parsed(t, text)
				parsed(t, text+" + "+text+" * "+text)
			}
			for _, one := range []string{"(", "-", "!"} {
				for _, rest := range []string{"", "a", "a)" + shut(12-n), "if", ")", one, open(20), "in in"} {
					refuse(t, before+one+rest, api.ErrDeep, 12)
				}
			}
			refuse(t, before, api.ErrEnd, 12)
			refuse(t, before+"+", api.ErrToken, 12)
			refuse(t, before+"in((", api.ErrToken, 15)
		}
	}
	// What is shut is not open any more.
	parsed(t, open(11)+"-a"+strings.Repeat(" + -a * (a)", 50)+shut(11))
	parsed(t, strings.Repeat("(-(!(a))) - -", 200)+"a")
	refuse(t, open(11)+"-a + (-a)", api.ErrDeep, 17)
	refuse(t, open(12)+"a"+shut(1)+" + ((a", api.ErrDeep, 18)
	// The first error is told, of whatever kind it is.
	refuse(t, ") "+open(13), api.ErrToken, 0)
	refuse(t, open(12)+"a "+open(1), api.ErrToken, 14)
	refuse(t, "a + "+open(13)+" if", api.ErrDeep, 16)
	read(t, "a "+open(13), name("a"), 1)
}

func TestP7_1ShortTexts(t *testing.T) {
	each("", strings.Fields("a 1 $ in ( ) - ! + * < == && || ; if"), 4, func(text string) { compare(t, text, 0) })
	each("", strings.Fields("a in ( ) - < &&"), 6, func(text string) { compare(t, text, 0) })
	each("( a ", strings.Fields("a ( ) - ! + * % < && ||"), 4, func(text string) { compare(t, text, 0) })
}

func TestP7_1MixedTexts(t *testing.T) {
	random := rand.New(rand.NewSource(71))
	starts := strings.Fields("a b 1 42 $ in(s) -a !b (a) ( ( ( - !")
	follows := strings.Fields("+ - * / % < <= > >= == != && || ) ) )")
	wrong := strings.Fields("in if ; = ] -> a 7 $ ( ! + < && )")
	for range 30000 {
		var b strings.Builder
		for range random.Intn(40) {
			b.WriteString(starts[random.Intn(len(starts))] + " ")
			if random.Intn(3) > 0 {
				b.WriteString(follows[random.Intn(len(follows))] + " ")
			}
			if random.Intn(60) == 0 {
				b.WriteString(wrong[random.Intn(len(wrong))] + " ")
			}
		}
		compare(t, b.String(), 0)
	}
}

func TestP7_1LongTexts(t *testing.T) {
	long := "a" + strings.Repeat("+a", 8191)
	if e := parsed(t, long); !alike(e, chain(api.EAdd, 8192, name("a"))) {
		t.Error("a sum of 8192 names is another tree")
	}
	refuse(t, long+"+", api.ErrEnd, api.MaxText)
	refuse(t, strings.Repeat("(", api.MaxText), api.ErrDeep, 12)
	refuse(t, strings.Repeat("-", api.MaxText), api.ErrDeep, 12)
	refuse(t, strings.Repeat(")", api.MaxText), api.ErrToken, 0)
}

func TestP7_1OtherArguments(t *testing.T) {
	// What these return is not specified, but each of them ends, and a Fault stands alone.
	sign := api.Token{Kind: api.TSign, Text: "("}
	odd := [][]api.Token{nil, {}, {sign}, {{Kind: api.TName, Text: "a"}}, {{Kind: api.TName, Text: "in"}}, {{}, {}}, {{Kind: 99, Text: "("}}, {{Kind: api.TNum, Text: "-", N: -1}}, {{Kind: api.TEnd}, {Kind: api.TName, Text: "a"}}}
	odd = append(odd, slices.Repeat([]api.Token{{Kind: api.TSign, Text: "-"}}, 1<<17), slices.Repeat([]api.Token{{Kind: api.TName, Text: "a"}, {Kind: api.TSign, Text: "<"}}, 1<<17), slices.Repeat([]api.Token{{Kind: api.TName, Text: "a"}, {Kind: api.TSign, Text: "||"}}, 1<<16))
	for k, l := range odd {
		for _, at := range []int{0, 1, -1, len(l), len(l) + 1, math.MaxInt, math.MinInt} {
			if e, end, f := expr.Parse(l, at); f.Code != api.OK && (end != 0 || !equal(e, api.Expr{})) {
				t.Errorf("%d: Parse at %d = %v, %d, %v", k, at, e, end, f)
			}
		}
	}
}

func TestP7_1ResultsAreNew(t *testing.T) {
	const text = "(a + -b) * in(c) || 1 < $"
	l := tokens(t, text)
	given := slices.Clone(l)
	first, end, _ := expr.Parse(l, 0)
	second, _, _ := expr.Parse(l, 0)
	want := tree(l[:end])
	spoil(first)
	if !slices.Equal(l, given) {
		t.Errorf("the tokens became %v; want %v", l, given)
	}
	for k := range l {
		l[k] = api.Token{}
	}
	expr.Parse(tokens(t, "x * y - z"), 0)
	if !equal(second, want) {
		t.Errorf("Parse(%q) became %v; want %v", text, second, want)
	}
}

// spoil overwrites all slices of a tree, with their unused capacity.
func spoil(e api.Expr) {
	kids := e.Kids[:cap(e.Kids)]
	for k := range kids {
		spoil(kids[k])
		kids[k] = api.Expr{Kind: 9, N: 9, Name: "other", At: 9}
	}
}

func TestP7_2RightSingle(t *testing.T) {
	a := name("a")
	for _, n := range []int64{0, 1, math.MaxInt64, -1, math.MinInt64} {
		right(t, num(n), n >= 0)
	}
	right(t, arg(), true)
	for s, want := range map[string]bool{"x": true, "_": true, "Z9": true, "error": true, "inn": true, strings.Repeat("n", 24): true, strings.Repeat("n", 25): false, "": false, "9": false, "a b": false, " a": false, "a ": false, "a-b": false, "a#": false, "é": false, "(a)": false, "$": false, "1": false, "a\x00": false, strings.Repeat("n", 1<<20): false} {
		right(t, name(s), want)
		right(t, in(s), want)
		right(t, of(api.ENeg, name(s)), want)
		right(t, of(api.EAdd, a, in(s)), want)
	}
	for _, s := range strings.Fields(keywords) {
		right(t, name(s), false)
		right(t, in(s), false)
	}
	for _, kind := range []int{0, -1, 20, 99, math.MaxInt, math.MinInt} {
		for _, e := range []api.Expr{{Kind: kind}, {Kind: kind, N: 1}, {Kind: kind, Name: "a"}, of(kind, a), of(kind, a, a)} {
			right(t, e, false)
			right(t, of(api.ENot, e), false)
			right(t, of(api.EOr, e, a), false)
			right(t, of(api.EOr, a, e), false)
		}
	}
}

func TestP7_2RightFields(t *testing.T) {
	a := name("a")
	for kind := api.ENum; kind <= api.EOr; kind++ {
		count := 2
		switch {
		case kind <= api.EIn:
			count = 0
		case kind <= api.ENot:
			count = 1
		}
		named := kind == api.EVar || kind == api.EIn
		for kids := range 5 {
			for _, n := range []int64{0, 1, -1} {
				for _, s := range []string{"", "b"} {
					want := kids == count && (n == 0 || n == 1 && kind == api.ENum) && named == (s != "")
					e := api.Expr{Kind: kind, N: n, Name: s, Kids: slices.Repeat([]api.Expr{a}, kids), At: -7}
					right(t, e, want)
					right(t, of(api.ESub, e, a), want)
				}
			}
		}
	}
	right(t, api.Expr{Kind: api.EArg, Kids: []api.Expr{}}, true)
	right(t, api.Expr{}, false)
}

func TestP7_2RightDepth(t *testing.T) {
	a, both := name("a"), of(api.EAdd, name("a"), name("a"))
	for n := range 20 {
		right(t, nest(n, a), n <= 12)
		right(t, nest(n, in("s")), n <= 12)
		right(t, nest(n, both), n <= 11)
		right(t, of(api.EMul, nest(n, a), nest(n, a)), n <= 12)
		right(t, of(api.EMul, both, of(api.EMul, a, nest(n, a))), n <= 11)
		right(t, of(api.EMul, both, of(api.EMul, nest(n, a), a)), n <= 11)
		left, below, mixed := a, a, a
		for range n {
			left, below, mixed = of(api.ESub, left, a), of(api.ESub, a, below), of(api.ENot, of(api.EOr, mixed, a))
		}
		right(t, left, true)
		// The last bracket is that of a - a.
		right(t, below, n <= 13)
		right(t, mixed, n <= 6)
	}
	// Only operands that need brackets have them.
	loose := of(api.EOr, a, of(api.EAnd, a, of(api.ELt, a, of(api.EAdd, a, of(api.EMul, a, nest(12, a))))))
	right(t, loose, true)
	right(t, of(api.ENeg, loose), false)
}

func TestP7_2RightLength(t *testing.T) {
	// A source of MaxText bytes has room for 8192 names with a sign of one byte between each two, for 5462 with a longer one.
	a := name("a")
	for kind, most := range map[int]int{api.EAdd: 8192, api.EMul: 8192, api.EAnd: 5462, api.EOr: 5462} {
		right(t, chain(kind, most, a), true)
		right(t, chain(kind, most+1, a), false)
	}
	half := chain(api.EAdd, 4096, a) // 8191 bytes
	right(t, of(api.EAdd, half, a), true)
	right(t, of(api.EOr, half, half), true)
	right(t, of(api.EOr, half, of(api.ENeg, half)), false)
	right(t, of(api.EMul, half, chain(api.EMul, 4096, a)), false)
	right(t, of(api.ELt, half, half), true)
	right(t, of(api.EAdd, of(api.ELt, half, half), a), false)
	most := num(math.MaxInt64) // 19 bytes
	right(t, chain(api.EAdd, 819, most), true)
	right(t, chain(api.EAdd, 820, most), false)
	right(t, chain(api.EAdd, 1<<16, a), false)
}

func TestP7_2RightEveryTree(t *testing.T) {
	random := rand.New(rand.NewSource(72))
	for range 20000 {
		e := grown(random, 4)
		right(t, e, true)
		// One place is another then: whether it is right, Parse says of its text.
		odd := changed(random, e)
		want := false
		if l, f := lex.All(full(odd)); f.Code == api.OK {
			got, _, f := expr.Parse(l, 0)
			want = f.Code == api.OK && alike(got, odd)
		}
		right(t, odd, want)
	}
}

// changed is a copy of e with another field somewhere.
func changed(random *rand.Rand, e api.Expr) api.Expr {
	e = bare(e)
	place := &e
	for len(place.Kids) > 0 && random.Intn(3) > 0 {
		place = &place.Kids[random.Intn(len(place.Kids))]
	}
	switch random.Intn(5) {
	case 0:
		place.Kind = random.Intn(24) - 2
	case 1:
		place.N = []int64{0, 1, -1, math.MaxInt64, math.MinInt64}[random.Intn(5)]
	case 2:
		place.Name = []string{"", "b", "in", "on", "a b", "7", "$", "b)", "b + b", "-b", "#", "\n", strings.Repeat("b", 25)}[random.Intn(13)]
	case 3:
		place.Kids = append(place.Kids, name("b"))
	case 4:
		place.Kids = place.Kids[:len(place.Kids)/2]
	}
	return e
}

func TestP7_2PrintExamples(t *testing.T) {
	prints(t, parsed(t, "1-(2-3)-((4))"), "1 - (2 - 3) - 4")
	prints(t, parsed(t, "-(-x) * (y)"), "--x * y")
	a, b := name("a"), name("b")
	prints(t, num(0), "0")
	prints(t, num(math.MaxInt64), "9223372036854775807")
	prints(t, arg(), "$")
	prints(t, name("_Z9"), "_Z9")
	prints(t, in("s"), "in(s)")
	prints(t, of(api.ENeg, num(1)), "-1")
	prints(t, of(api.ENot, of(api.ENeg, of(api.ENot, in("s")))), "!-!in(s)")
	prints(t, of(api.ESub, of(api.ENeg, a), of(api.ENeg, b)), "-a - -b")
	prints(t, of(api.ENot, of(api.EEq, a, b)), "!(a == b)")
	prints(t, of(api.EEq, of(api.ENot, a), b), "!a == b")
	prints(t, of(api.ELt, of(api.ELt, a, b), of(api.EGe, a, b)), "(a < b) < (a >= b)")
	prints(t, of(api.ELt, of(api.EAdd, a, b), of(api.ESub, a, b)), "a + b < a - b")
	prints(t, of(api.EOr, of(api.EOr, a, b), of(api.EOr, a, b)), "a || b || (a || b)")
	prints(t, of(api.EAnd, of(api.EOr, a, b), of(api.EAnd, a, b)), "(a || b) && (a && b)")
	prints(t, of(api.EMul, of(api.EMod, a, b), of(api.EDiv, a, b)), "a % b * (a / b)")
}

func TestP7_2PrintOperands(t *testing.T) {
	a, b, c := name("a"), name("b"), name("c")
	bracket := func(s string, needed bool) string {
		if needed {
			return "(" + s + ")"
		}
		return s
	}
	for _, o := range ops {
		two := "a " + o.sign + " b"
		prints(t, of(o.kind, a, b), two)
		prints(t, of(api.ENeg, of(o.kind, a, b)), "-("+two+")")
		prints(t, of(api.ENot, of(o.kind, a, b)), "!("+two+")")
		prints(t, of(o.kind, of(api.ENeg, a), of(api.ENot, b)), "-a "+o.sign+" !b")
		for _, p := range ops {
			left, right := p.level, p.level+1
			if p.level == 3 {
				left, right = 4, 4
			}
			prints(t, of(p.kind, of(o.kind, a, b), c), bracket(two, o.level < left)+" "+p.sign+" c")
			prints(t, of(p.kind, c, of(o.kind, a, b)), "c "+p.sign+" "+bracket(two, o.level < right))
		}
	}
}

func TestP7_2OtherTrees(t *testing.T) {
	// What Print returns for them is not specified, but each call ends.
	a := name("a")
	for kind := -1; kind <= 20; kind++ {
		for kids := range 4 {
			e := api.Expr{Kind: kind, N: math.MinInt64, Name: "\xff)", Kids: slices.Repeat([]api.Expr{a}, kids)}
			for _, e := range []api.Expr{e, of(api.ENeg, e), of(api.EOr, e, e)} {
				expr.Print(e)
				expr.Right(e)
				if !expr.Same(e, e) {
					t.Errorf("%v is not the same as itself", e)
				}
			}
		}
	}
	right(t, nest(1<<16, a), false)
	for _, e := range []api.Expr{nest(1<<16-1, a), chain(api.EOr, 1<<16, a)} {
		if s := expr.Print(e); strings.Count(s, "a") != strings.Count(names(e), "a") || expr.Right(e) || !expr.Same(e, bare(e)) {
			t.Errorf("a tree of 2^16 parts in one another has a text of %d bytes", len(s))
		}
	}
	below := a
	for range 1 << 15 {
		below = of(api.EDiv, a, below)
	}
	if s := expr.Print(below); expr.Right(below) || strings.Count(s, "a") != 1<<15+1 {
		t.Errorf("a tree of 2^15 brackets in one another has a text of %d bytes", len(s))
	}
}

// names has an a for each name of e.
func names(e api.Expr) string {
	var b strings.Builder
	var walk func(e api.Expr)
	walk = func(e api.Expr) {
		b.WriteString(e.Name)
		for _, kid := range e.Kids {
			walk(kid)
		}
	}
	walk(e)
	return b.String()
}

func TestP7_2SharedOperands(t *testing.T) {
	// As a tree it has 2^60 operands: no source is as long.
	e := name("a")
	for range 60 {
		e = of(api.EAdd, e, e)
	}
	if expr.Right(e) {
		t.Error("Right of a tree of 2^60 operands")
	}
}

func TestP7_2Same(t *testing.T) {
	a := name("a")
	same := func(x, y api.Expr, want bool) {
		t.Helper()
		if expr.Same(x, y) != want || expr.Same(y, x) != want {
			t.Errorf("Same(%v, %v) = %t, or the other way round; want %t", x, y, expr.Same(x, y), want)
		}
	}
	same(api.Expr{}, api.Expr{}, true)
	same(api.Expr{At: 1}, api.Expr{At: -2, Kids: []api.Expr{}}, true)
	same(api.Expr{Kind: 99, N: -1, Name: "a b"}, api.Expr{Kind: 99, N: -1, Name: "a b"}, true)
	all := every(1)
	for i, x := range all {
		for j, y := range all {
			same(x, y, i == j)
			same(of(api.ENot, x), of(api.ENot, y), i == j)
			same(of(api.EAdd, a, x), of(api.EAdd, a, y), i == j)
			same(of(api.EAdd, x, a), of(api.EAdd, y, a), i == j)
		}
	}
	e := api.Expr{Kind: api.EMul, N: 3, Name: "n", Kids: []api.Expr{a, num(2), arg()}, At: 5}
	for k, other := range []api.Expr{
		{Kind: api.EDiv, N: 3, Name: "n", Kids: e.Kids}, {Kind: api.EMul, N: 4, Name: "n", Kids: e.Kids}, {Kind: api.EMul, N: 3, Name: "N", Kids: e.Kids},
		{Kind: api.EMul, N: 3, Name: "n", Kids: e.Kids[:2]}, {Kind: api.EMul, N: 3, Name: "n", Kids: e.Kids[1:]}, {Kind: api.EMul, N: 3, Name: "n"},
		{Kind: api.EMul, N: 3, Name: "n", Kids: append(slices.Clone(e.Kids), api.Expr{})}, {Kind: api.EMul, N: 3, Name: "n", Kids: []api.Expr{a, num(2), {}}},
	} {
		if expr.Same(e, other) || expr.Same(other, e) {
			t.Errorf("%d: %v is the same as %v", k, e, other)
		}
	}
	random := rand.New(rand.NewSource(73))
	for range 5000 {
		e := grown(random, 5)
		same(e, moved(random, e), true)
		odd := changed(random, e)
		same(moved(random, odd), e, alike(odd, e))
	}
}

// moved is a copy of e with other places.
func moved(random *rand.Rand, e api.Expr) api.Expr {
	e.At = random.Int()
	kids := make([]api.Expr, 0, 3)
	for _, kid := range e.Kids {
		kids = append(kids, moved(random, kid))
	}
	e.Kids = kids
	return e
}

func TestP7_2ArgumentsStay(t *testing.T) {
	random := rand.New(rand.NewSource(74))
	for range 1000 {
		e := moved(random, grown(random, 4))
		before := bare(e)
		text := expr.Print(e)
		expr.Right(e)
		expr.Same(e, moved(random, e))
		if !alike(e, before) || !unused(e) {
			t.Fatalf("%s became %v", text, e)
		}
		if again := expr.Print(moved(random, before)); again != text {
			t.Fatalf("Print = %q, and %q for other places", text, again)
		}
	}
}

// unused reports whether the unused capacity of a tree has nothing in it.
func unused(e api.Expr) bool {
	for _, rest := range e.Kids[len(e.Kids):cap(e.Kids)] {
		if !equal(rest, api.Expr{}) {
			return false
		}
	}
	return !slices.ContainsFunc(e.Kids, func(kid api.Expr) bool { return !unused(kid) })
}

// again expects that the text of a tree is that tree, that each bracket of it is needed, and that it stands at the end of MaxText too.
func again(t *testing.T, e api.Expr) {
	t.Helper()
	text := expr.Print(e)
	if got := parsed(t, text); !expr.Same(got, e) || !alike(got, e) || !expr.Right(got) || expr.Print(got) != text {
		t.Fatalf("%q is parsed as %v; want %v", text, got, e)
	}
	if got := parsed(t, full(e)); !alike(got, e) || expr.Print(got) != text {
		t.Fatalf("%q is parsed as %v and printed as %q; want %q", full(e), got, expr.Print(got), text)
	}
	for from, to := range brackets(text) {
		without := text[:from] + " " + text[from+1:to] + " " + text[to+1:]
		l := tokens(t, without)
		if got, end, f := expr.Parse(l, 0); f.Code == api.OK && end == len(l)-1 && expr.Same(got, e) {
			t.Fatalf("%q has brackets at %d and %d that are not needed", text, from, to)
		}
	}
}

// brackets has the place behind each bracket's, but not of those of in.
func brackets(text string) map[int]int {
	pairs := map[int]int{}
	var open []int
	for k := range len(text) {
		switch text[k] {
		case '(':
			open = append(open, k)
		case ')':
			from := open[len(open)-1]
			open = open[:len(open)-1]
			if !strings.HasSuffix(text[:from], "in") {
				pairs[from] = k
			}
		}
	}
	return pairs
}

func TestP7_3EveryTree(t *testing.T) {
	for _, e := range every(2) {
		right(t, e, true)
		again(t, e)
	}
}

func TestP7_3MixedTrees(t *testing.T) {
	random := rand.New(rand.NewSource(75))
	for range 3000 {
		again(t, grown(random, 5))
	}
	deep := 0
	for range 3000 {
		e := grown(random, 16)
		if text := expr.Print(e); len(text) > api.MaxText {
			continue
		}
		if !expr.Right(e) {
			// Its text is right but for what is open in it.
			l := tokens(t, expr.Print(e))
			if _, _, f := expr.Parse(l, 0); f.Code != api.ErrDeep {
				t.Fatalf("Right(%v) is false, but Parse of its text returns %v", e, f)
			}
			deep++
			continue
		}
		if got := parsed(t, expr.Print(e)); !expr.Same(got, e) {
			t.Fatalf("%q is parsed as %v", expr.Print(e), got)
		}
	}
	if deep == 0 {
		t.Error("no tree was too deep")
	}
}

func TestP7_3ParsedIsRight(t *testing.T) {
	check := func(text string) {
		l := tokens(t, text)
		e, end, f := expr.Parse(l, 0)
		if f.Code != api.OK {
			return
		}
		if !expr.Right(e) {
			t.Fatalf("Parse(%.80q) = %v, which is not right", text, e)
		}
		if got := parsed(t, expr.Print(e)); !expr.Same(got, e) {
			t.Fatalf("%q, printed as %q, is parsed as %v", text, expr.Print(e), got)
		}
		if before := parsed(t, text[:l[end-1].End]); !equal(before, e) {
			t.Fatalf("Parse(%q) = %v, but %v without what follows", text, e, before)
		}
	}
	each("", strings.Fields("a in ( ) - ! + * < && ;"), 5, check)
	check(strings.Repeat("(", 12) + "a" + strings.Repeat(")", 12))
	check(strings.Repeat("-", 12) + "a")
}

func TestP7_3LongestText(t *testing.T) {
	// All of MaxText without a space is right, though its text has more bytes than can be parsed.
	text := "a" + strings.Repeat("+a", 8190) + "+bb"
	e := parsed(t, text)
	if len(text) != api.MaxText || !expr.Right(e) || len(expr.Print(e)) != api.MaxText+2*8191 {
		t.Errorf("a text of %d bytes: Right = %t, printed with %d bytes", len(text), expr.Right(e), len(expr.Print(e)))
	}
}

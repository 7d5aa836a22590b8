package act_test

import (
	"fmt"
	"math"
	"math/rand"
	"slices"
	"strconv"
	"strings"
	"testing"

	"cotillion/act"
	"cotillion/api"
	"cotillion/expr"
	"cotillion/lex"
)

const keywords = "system age chart steps fuel var port timer state parallel history deep entry exit on auto raise send arm cancel " +
	"if else loop in inst quantum ext prio chan cap cert insts chans cell off"

// forms has what stands behind the first word of each action: N a name, V an event, D a number, E an expression,
// X an expression in brackets or nothing, B a block, L an else with its block or nothing.
var forms = map[string]struct {
	kind int
	form string
}{
	"raise": {api.ARaise, "raise V X ;"}, "send": {api.ASend, "send N V X ;"}, "arm": {api.AArm, "arm N ( E ) ;"},
	"cancel": {api.ACancel, "cancel N ;"}, "if": {api.AIf, "if ( E ) B L"}, "loop": {api.ALoop, "loop D B"},
}

func num(n int64) []api.Expr   { return []api.Expr{{Kind: api.ENum, N: n}} }
func name(s string) []api.Expr { return []api.Expr{{Kind: api.EVar, Name: s}} }
func sum(a, b []api.Expr) []api.Expr {
	return []api.Expr{{Kind: api.EAdd, Kids: []api.Expr{a[0], b[0]}}}
}
func less(a, b []api.Expr) []api.Expr {
	return []api.Expr{{Kind: api.ELt, Kids: []api.Expr{a[0], b[0]}}}
}

func block(l ...api.Act) []api.Act         { return l }
func set(s string, x []api.Expr) api.Act   { return api.Act{Kind: api.ASet, Name: s, X: x} }
func raise(s string, x []api.Expr) api.Act { return api.Act{Kind: api.ARaise, Event: s, X: x} }
func send(p, s string, x []api.Expr) api.Act {
	return api.Act{Kind: api.ASend, Name: p, Event: s, X: x}
}
func arm(s string, x []api.Expr) api.Act { return api.Act{Kind: api.AArm, Name: s, X: x} }
func cancel(s string) api.Act            { return api.Act{Kind: api.ACancel, Name: s} }
func loop(n int, then []api.Act) api.Act { return api.Act{Kind: api.ALoop, N: n, Then: then} }
func when(x []api.Expr, then, or []api.Act) api.Act {
	return api.Act{Kind: api.AIf, X: x, Then: then, Else: or}
}

// placed is a at a place.
func placed(at int, a api.Act) api.Act {
	a.At = at
	return a
}

// at is x at a place.
func at(place int, x []api.Expr) []api.Expr {
	e := x[0]
	e.At = place
	return []api.Expr{e}
}

// tokens returns the tokens of a text that has some.
func tokens(t *testing.T, text string) []api.Token {
	t.Helper()
	l, f := lex.All(text)
	if f.Code != api.OK {
		t.Fatalf("lex.All(%.80q): %v", text, f)
	}
	return l
}

// told has all fields of a block but those that are zero, and the places too.
func told(l []api.Act) string {
	var b strings.Builder
	for _, a := range l {
		fmt.Fprintf(&b, "\n%d at %d", a.Kind, a.At)
		if a.Name != "" {
			fmt.Fprintf(&b, " N %q", a.Name)
		}
		if a.Event != "" {
			fmt.Fprintf(&b, " V %q", a.Event)
		}
		if a.N != 0 {
			fmt.Fprintf(&b, " D %d", a.N)
		}
		for _, e := range a.X {
			fmt.Fprintf(&b, " X %q", fmt.Sprint(e))
		}
		if len(a.Then) > 0 {
			b.WriteString(" then{" + told(a.Then) + "}")
		}
		if len(a.Else) > 0 {
			b.WriteString(" else{" + told(a.Else) + "}")
		}
	}
	return b.String()
}

// bare is a copy of a block without places.
func bare(l []api.Act) []api.Act {
	var out []api.Act
	for _, a := range l {
		a.At = 0
		a.X = nowhere(a.X)
		a.Then, a.Else = bare(a.Then), bare(a.Else)
		out = append(out, a)
	}
	return out
}

// nowhere is a copy of expressions without places.
func nowhere(l []api.Expr) []api.Expr {
	var out []api.Expr
	for _, e := range l {
		e.At = 0
		e.Kids = nowhere(e.Kids)
		out = append(out, e)
	}
	return out
}

// alike reports whether two blocks are equal but for their places.
func alike(a, b []api.Act) bool {
	return told(bare(a)) == told(bare(b))
}

// isName reports whether a token is a name and no keyword.
func isName(t api.Token) bool {
	return t.Kind == api.TName && !slices.Contains(strings.Fields(keywords), t.Text)
}

// scan tells the block at a token, and returns the index of the first token after it, or the first error. It reads no
// trees: it only keeps what has to come yet.
func scan(l []api.Token, at int) (string, int, api.Fault) {
	var out strings.Builder
	open, rest := 0, []string{"B"}
	ahead := func(form string) {
		more := strings.Fields(form)
		slices.Reverse(more)
		rest = append(rest, more...)
	}
	for len(rest) > 0 {
		t, part := l[at], rest[len(rest)-1]
		rest = rest[:len(rest)-1]
		code := api.OK
		switch {
		case part == "A" && t.Text == "}":
			open--
			out.WriteString("}")
		case part == "A":
			f, ok := forms[t.Text]
			if !ok {
				f.kind, f.form = api.ASet, "N = E ;"
			}
			fmt.Fprintf(&out, "\n%d at %d", f.kind, t.At)
			ahead(f.form + " A")
			continue
		case part == "X" || part == "L":
			if part == "X" && t.Text == "(" {
				ahead("( E )")
			} else if part == "L" && t.Text == "else" {
				out.WriteString(" else")
				ahead("else B")
			}
			continue
		case part == "E":
			e, next, f := expr.Parse(l, at)
			if f.Code != api.OK {
				return "", 0, f
			}
			fmt.Fprintf(&out, " X %q", fmt.Sprint(e))
			at = next
			continue
		case part == "B" && t.Text == "{" && open == 4:
			code = api.ErrDeep
		case part == "B" && t.Text == "{":
			if !strings.HasSuffix(out.String(), " else") {
				out.WriteString(" then")
			}
			out.WriteString("{")
			open++
			ahead("A")
		case (part == "N" || part == "V") && isName(t):
			fmt.Fprintf(&out, " %s %q", part, t.Text)
		case part == "D" && t.Kind == api.TNum:
			if t.N != 0 {
				fmt.Fprintf(&out, " %s %d", part, t.N)
			}
		case t.Text == part:
		case t.Kind == api.TEnd:
			code = api.ErrEnd
		default:
			code = api.ErrToken
		}
		if code != api.OK {
			return "", 0, api.Fault{Code: code, At: t.At}
		}
		at++
	}
	text := strings.TrimSuffix(strings.TrimPrefix(out.String(), " then{"), "}")
	return strings.ReplaceAll(strings.ReplaceAll(text, " then{}", ""), " else{}", ""), at, api.Fault{}
}

// expect holds what Parse returns against what it should return.
func expect(t *testing.T, l []api.Token, at int, want string, end int, fault api.Fault) {
	t.Helper()
	got, next, f := act.Parse(l, at)
	if f != fault || next != end || told(got) != want {
		t.Fatalf("Parse(%v, %d) = %v, %d, %v; want %s, %d, %v", l, at, got, next, f, want, end, fault)
	}
}

// compare holds Parse against scan, from a token on.
func compare(t *testing.T, text string, at int) {
	t.Helper()
	l := tokens(t, text)
	want, end, f := scan(l, at)
	expect(t, l, at, want, end, f)
}

// read expects that a text is a block.
func read(t *testing.T, text string, want ...api.Act) {
	t.Helper()
	l := tokens(t, text)
	expect(t, l, 0, told(want), len(l)-1, api.Fault{})
	compare(t, text, 0)
}

// refuse expects that Parse returns just a Fault.
func refuse(t *testing.T, text string, code api.Errno, at int) {
	t.Helper()
	expect(t, tokens(t, text), 0, "", 0, api.Fault{Code: code, At: at})
	compare(t, text, 0)
}

// parsed returns the block that a text is.
func parsed(t *testing.T, text string) []api.Act {
	t.Helper()
	l := tokens(t, text)
	b, end, f := act.Parse(l, 0)
	if f != (api.Fault{}) || end != len(l)-1 {
		t.Fatalf("Parse(%.200q) ends at %d of %d, %v", text, end, len(l), f)
	}
	return b
}

// each calls f with begun and with every text that goes on from it with at most most of the parts.
func each(begun string, parts []string, most int, f func(string)) {
	f(begun)
	if most == 0 {
		return
	}
	for _, p := range parts {
		each(begun+p+" ", parts, most-1, f)
	}
}

// lines returns the lines of a block, the last one without its indentation.
func lines(l []api.Act) []string {
	if len(l) == 0 {
		return []string{"{}"}
	}
	out := []string{"{"}
	for _, a := range l {
		x, given := "", ""
		if len(a.X) > 0 {
			x, given = expr.Print(a.X[0]), "("+expr.Print(a.X[0])+")"
		}
		then := lines(a.Then)
		if len(a.Else) > 0 {
			or := lines(a.Else)
			then[len(then)-1] += " else " + or[0]
			then = append(then, or[1:]...)
		}
		action := map[int][]string{
			api.ASet: {a.Name + " = " + x + ";"}, api.ARaise: {"raise " + a.Event + given + ";"},
			api.ASend: {"send " + a.Name + " " + a.Event + given + ";"}, api.AArm: {"arm " + a.Name + given + ";"},
			api.ACancel: {"cancel " + a.Name + ";"}, api.AIf: append([]string{"if " + given + " " + then[0]}, then[1:]...),
			api.ALoop: append([]string{"loop " + strconv.Itoa(a.N) + " " + then[0]}, then[1:]...),
		}
		for _, s := range action[a.Kind] {
			out = append(out, "  "+s)
		}
	}
	return append(out, "}")
}

// full is the text of a block at an indentation level.
func full(l []api.Act, in int) string {
	return strings.Join(lines(l), "\n"+strings.Repeat("  ", in))
}

// right expects what Right says of a block.
func right(t *testing.T, want bool, l ...api.Act) {
	t.Helper()
	if got := act.Right(l); got != want {
		t.Errorf("Right(%.300s) = %t; want %t", told(l), got, want)
	}
}

// prints expects the text of a block at level 0.
func prints(t *testing.T, want string, l ...api.Act) {
	t.Helper()
	if got := act.Print(l, 0); got != want {
		t.Errorf("Print(%s) = %q; want %q", told(l), got, want)
	}
}

// deepest is a block in so many blocks in one another, counting the outermost one.
func deepest(n int) []api.Act {
	var l []api.Act
	for range n - 1 {
		l = block(loop(2, l))
	}
	return l
}

// grown returns a block by chance with at most so many blocks in one another.
func grown(random *rand.Rand, depth int) []api.Act {
	var l []api.Act
	for range random.Intn(4) {
		x := [][]api.Expr{num(0), num(math.MaxInt64), name("a"), less(name("a"), num(1)), sum(name("_Z9"), less(num(7), name("inn")))}[random.Intn(5)]
		word := []string{"a", "raised", "_Z9", "error", strings.Repeat("n", 24)}[random.Intn(5)]
		kind := api.ASet + random.Intn(7)
		if kind >= api.AIf && depth == 1 {
			kind = api.ACancel
		}
		a := map[int]api.Act{
			api.ASet: set(word, x), api.ARaise: raise(word, x), api.ASend: send("p", word, x), api.AArm: arm(word, x), api.ACancel: cancel(word),
			api.AIf: {Kind: api.AIf, X: x}, api.ALoop: {Kind: api.ALoop, N: []int{0, 1, 16, math.MaxInt64}[random.Intn(4)]},
		}[kind]
		if (kind == api.ARaise || kind == api.ASend) && random.Intn(2) == 0 {
			a.X = nil
		}
		if kind >= api.AIf {
			a.Then = grown(random, depth-1)
		}
		if kind == api.AIf && random.Intn(2) == 0 {
			a.Else = grown(random, depth-1)
		}
		l = append(l, a)
	}
	return l
}

// every returns all blocks of at most one action with at most so many blocks in one another, and some with two.
func every(depth int) [][]api.Act {
	one, two := num(1), less(name("a"), num(2))
	l := []api.Act{set("a", one), raise("e", nil), raise("e", two), send("p", "e", nil), send("p", "e", one), arm("t", two), cancel("t")}
	if depth > 1 {
		below := every(depth - 1)
		for _, a := range below {
			l = append(l, loop(3, a))
			for _, b := range below {
				l = append(l, when(one, a, b))
			}
		}
	}
	out := [][]api.Act{nil}
	for k, a := range l {
		out = append(out, block(a))
		if k%5 == 0 {
			out = append(out, block(a, l[(k+3)%len(l)]))
		}
	}
	return out
}

func TestP8_1Examples(t *testing.T) {
	read(t, "{raise e ( 1 );loop 2{}}", placed(1, raise("e", at(11, num(1)))), placed(15, loop(2, nil)))
	read(t, "{}")
	read(t, " # no\n{ # no\n}")
}

func TestP8_1Actions(t *testing.T) {
	a := name("a")
	read(t, "{x=1;}", placed(1, set("x", at(3, num(1)))))
	read(t, "{ x = a < 1 ; }", placed(2, set("x", at(8, less(at(6, a), at(10, num(1)))))))
	read(t, "{raise e;}", placed(1, raise("e", nil)))
	read(t, "{raise error(a);}", placed(1, raise("error", at(13, a))))
	read(t, "{send p e;}", placed(1, send("p", "e", nil)))
	read(t, "{send p e(a);}", placed(1, send("p", "e", at(10, a))))
	read(t, "{send p p;}", placed(1, send("p", "p", nil)))
	read(t, "{arm t(a);}", placed(1, arm("t", at(7, a))))
	read(t, "{cancel t;}", placed(1, cancel("t")))
	read(t, "{loop 0{}}", placed(1, loop(0, nil)))
	read(t, "{loop 9223372036854775807 { cancel t; }}", placed(1, loop(math.MaxInt64, block(placed(28, cancel("t"))))))
	read(t, "{if(a){}}", placed(1, when(at(4, a), nil, nil)))
	read(t, "{if(a){cancel t;}}", placed(1, when(at(4, a), block(placed(7, cancel("t"))), nil)))
	read(t, "{if(a){}else{cancel t;}}", placed(1, when(at(4, a), nil, block(placed(13, cancel("t"))))))
	read(t, "{if(a){cancel t;}else{cancel u;}}", placed(1, when(at(4, a), block(placed(7, cancel("t"))), block(placed(22, cancel("u"))))))
	// An else with an empty block is none.
	read(t, "{if(a){}else{}}", placed(1, when(at(4, a), nil, nil)))
	read(t, "{if(a){cancel t;}else{}cancel u;}", placed(1, when(at(4, a), block(placed(7, cancel("t"))), nil)), placed(23, cancel("u")))
	// An else is that of the if before it.
	read(t, "{if(a){if(a){}}else{cancel t;}}", placed(1, when(at(4, a), block(placed(7, when(at(10, a), nil, nil))), block(placed(20, cancel("t"))))))
	read(t, "{x=1;x=1;}", placed(1, set("x", at(3, num(1)))), placed(5, set("x", at(7, num(1)))))
	long := strings.Repeat("n", 24)
	read(t, "{"+long+"=1;raise "+long+";}", placed(1, set(long, at(26, num(1)))), placed(28, raise(long, nil)))
}

func TestP8_1InTheMiddle(t *testing.T) {
	const text = "exit { if (a) { b = (1); } else { loop 3 {} } send p e; } } {"
	l := tokens(t, text)
	want := block(placed(7, when(at(11, name("a")), block(placed(16, set("b", at(21, num(1))))), block(placed(34, loop(3, nil))))), placed(46, send("p", "e", nil)))
	expect(t, l, 1, told(want), 26, api.Fault{})
	for k := range l {
		compare(t, text, k)
	}
	expect(t, l, len(l)-1, "", 0, api.Fault{Code: api.ErrEnd, At: len(text)})
	expect(t, l, len(l)-2, "", 0, api.Fault{Code: api.ErrEnd, At: len(text)})
}

func TestP8_1FirstTokenAfter(t *testing.T) {
	for _, after := range append(strings.Fields(keywords), strings.Fields("a 7 { } ( ) [ ] ; , . : -> = == $")...) {
		expect(t, tokens(t, "{} "+after), 0, "", 2, api.Fault{})
		expect(t, tokens(t, "{cancel t;} "+after+" {"), 0, told(block(placed(1, cancel("t")))), 5, api.Fault{})
	}
}

func TestP8_1Unexpected(t *testing.T) {
	refuse(t, "", api.ErrEnd, 0)
	refuse(t, " # no\n ", api.ErrEnd, 7)
	refuse(t, "{", api.ErrEnd, 1)
	refuse(t, "x", api.ErrToken, 0)
	refuse(t, "}", api.ErrToken, 0)
	refuse(t, "{;}", api.ErrToken, 1)
	refuse(t, "{{}}", api.ErrToken, 1)
	refuse(t, "{x=1}", api.ErrToken, 4)
	refuse(t, "{x==1;}", api.ErrToken, 2)
	refuse(t, "{x=;}", api.ErrToken, 3)
	refuse(t, "{x=1=2;}", api.ErrToken, 4)
	refuse(t, "{x=a<b<c;}", api.ErrToken, 6)
	refuse(t, "{raise e(1)(2);}", api.ErrToken, 11)
	refuse(t, "{raise e();}", api.ErrToken, 9)
	refuse(t, "{raise e 1;}", api.ErrToken, 9)
	refuse(t, "{raise p e;}", api.ErrToken, 9)
	refuse(t, "{send e;}", api.ErrToken, 7)
	refuse(t, "{send e(1);}", api.ErrToken, 7)
	refuse(t, "{send p.e;}", api.ErrToken, 7)
	refuse(t, "{arm t;}", api.ErrToken, 6)
	refuse(t, "{cancel t(1);}", api.ErrToken, 9)
	refuse(t, "{cancel t, u;}", api.ErrToken, 9)
	refuse(t, "{if a {}}", api.ErrToken, 4)
	refuse(t, "{if (a) x = 1;}", api.ErrToken, 8)
	refuse(t, "{if (a) {};}", api.ErrToken, 10)
	refuse(t, "{if (a) {} else if (b) {}}", api.ErrToken, 16)
	refuse(t, "{if (a) {} else {} else {}}", api.ErrToken, 19)
	refuse(t, "{else {}}", api.ErrToken, 1)
	refuse(t, "{loop (2) {}}", api.ErrToken, 6)
	refuse(t, "{loop n {}}", api.ErrToken, 6)
	refuse(t, "{loop -1 {}}", api.ErrToken, 6)
	refuse(t, "{loop {}}", api.ErrToken, 6)
	refuse(t, "{loop 1 {};}", api.ErrToken, 10)
	refuse(t, "{loop 1 {} else {}}", api.ErrToken, 11)
	// The first error is told, of whatever kind it is.
	refuse(t, "{raise 1 2 3", api.ErrToken, 7)
	refuse(t, "{x = "+strings.Repeat("(", 13)+" if", api.ErrDeep, 17)
	refuse(t, "{x = if "+strings.Repeat("(", 13), api.ErrToken, 5)
	refuse(t, "{x = in(in); y = ;", api.ErrToken, 8)
}

func TestP8_1Keywords(t *testing.T) {
	for _, s := range strings.Fields(keywords) {
		for _, text := range []string{"{x=1;%s=1;}", "{raise %s;}", "{send %s e;}", "{send p %s;}", "{arm %s(1);}", "{cancel %s;}", "{x=%s;}", "{loop %s{}}"} {
			begin := strings.Index(text, "%")
			_, action := forms[s]
			switch {
			case action && text[1] == 'x' && begin == 5:
				// Where an action can begin, the sign behind the word is wrong.
				refuse(t, fmt.Sprintf(text, s), api.ErrToken, begin+len(s))
			case s == "in" && begin == 3:
				refuse(t, fmt.Sprintf(text, s), api.ErrToken, begin+2)
			default:
				refuse(t, fmt.Sprintf(text, s), api.ErrToken, begin)
			}
		}
		for _, other := range []string{s + "x", strings.ToUpper(s), "_" + s} {
			at := 4 + len(other)
			read(t, "{"+other+" = 1;}", placed(1, set(other, []api.Expr{{Kind: api.ENum, N: 1, At: at}})))
		}
	}
}

func TestP8_1EveryToken(t *testing.T) {
	// Each end of the text, and each other token at each place.
	const text = "{ x = a + in ( s ) ; raise e ; raise e ( 1 ) ; send p e ; send p e ( $ ) ; arm t ( 1 ) ; cancel t ; if ( a ) { } if ( a ) { x = 1 ; } else { loop 2 { cancel t ; } } }"
	parts := strings.Fields(text)
	for k := range parts {
		begun := strings.Join(parts[:k], " ")
		refuse(t, begun, api.ErrEnd, len(begun))
		for _, other := range strings.Fields("{ } ( ) [ ] ; , . : = == -> - ! + $ 7 b in if else loop raise send arm cancel entry") {
			compare(t, begun+" "+other, 0)
			compare(t, begun+" "+other+" "+strings.Join(parts[k:], " "), 0)
			compare(t, begun+" "+other+" "+strings.Join(parts[k+1:], " "), 0)
		}
		compare(t, begun+" "+strings.Join(parts[k+1:], " "), 0)
	}
}

func TestP8_1Deep(t *testing.T) {
	begins := []string{"loop 1 ", "if (a) ", "if (a) {} else "}
	var open func(n int, f func(string))
	open = func(n int, f func(string)) {
		if n == 1 {
			f("{")
			return
		}
		open(n-1, func(begun string) {
			for _, s := range begins {
				f(begun + s + "{")
				f(begun + "x = 1; if (a) {} loop 1 {} " + s + "{")
			}
		})
	}
	for n := 1; n <= 4; n++ {
		open(n, func(begun string) {
			shut := strings.Repeat("}", n)
			if n == 4 {
				begun = strings.TrimSuffix(begun, "x = 1; if (a) {} loop 1 {} ")
			}
			parsed(t, begun+shut)
			parsed(t, begun+"cancel t;"+shut)
			for _, s := range begins {
				if n < 4 || s == begins[2] {
					continue
				}
				at := len(begun + s)
				for _, rest := range []string{"{", "{}", "{x}", "{{", "{ if if", "{ x = " + strings.Repeat("(", 13)} {
					refuse(t, begun+s+rest, api.ErrDeep, at)
				}
				refuse(t, begun+s+";", api.ErrToken, at)
				refuse(t, begun+s, api.ErrEnd, len(strings.TrimRight(begun+s, " "))+1)
			}
			refuse(t, begun+strings.Repeat("}", n-1), api.ErrEnd, len(begun)+n-1)
		})
	}
	// What is shut is not open any more.
	parsed(t, "{"+strings.Repeat("loop 1 {loop 2 {loop 3 {}}} if (a) {} else {} ", 50)+"}")
	refuse(t, "{loop 1 {loop 2 {if (a) {} else {loop 4 {", api.ErrDeep, 40)
	refuse(t, "{loop 1 {loop 2 {loop 3 {}} loop 3 {loop 4 {} x", api.ErrEnd, 47)
	refuse(t, "{x loop 1 {loop 2 {loop 3 {loop 4 {", api.ErrToken, 3)
	expect(t, tokens(t, "{{{{{{"), 0, "", 0, api.Fault{Code: api.ErrToken, At: 1})
}

func TestP8_1DeepExpressions(t *testing.T) {
	// What is open in an expression and what is open in blocks is counted apart.
	twelve := strings.Repeat("(", 12) + "a" + strings.Repeat(")", 12)
	parsed(t, "{loop 1 {loop 1 {if ("+twelve+") {raise e("+twelve+"); x = "+twelve+"; arm t("+twelve+"); send p e("+twelve+");}}}}")
	refuse(t, "{loop 1 {loop 1 {if ("+strings.Repeat("(", 13), api.ErrDeep, 33)
	refuse(t, "{raise e(-"+twelve, api.ErrDeep, 21)
	refuse(t, "{x = "+twelve+" + !"+twelve, api.ErrDeep, 45)
}

func TestP8_1ShortTexts(t *testing.T) {
	each("", strings.Fields("{ } ; x = 1 ( if"), 4, func(text string) { compare(t, text, 0) })
	each("{ ", strings.Fields("{ } ; x = 1 ( ) if else loop raise send arm cancel"), 4, func(text string) { compare(t, text, 0) })
	each("{ if ( a ) { ", strings.Fields("{ } ; x else loop cancel 1 ( )"), 5, func(text string) { compare(t, text, 0) })
	each("{ send ", strings.Fields("x ; ( ) 1 } ="), 6, func(text string) { compare(t, text, 0) })
}

func TestP8_1MixedTexts(t *testing.T) {
	random := rand.New(rand.NewSource(81))
	parts := []string{"x = 1 ;", "x = a < b + ( 2 ) ;", "raise e ;", "raise e ( $ ) ;", "send p e ;", "send p e ( - 1 ) ;", "arm t ( in ( s ) ) ;", "cancel t ;", "if ( a ) {", "loop 2 {", "}", "}", "} else {"}
	for range 20000 {
		text := []string{"{"}
		for range random.Intn(14) {
			text = append(text, parts[random.Intn(len(parts))])
		}
		text = strings.Fields(strings.Join(append(text, slices.Repeat([]string{"}"}, random.Intn(5))...), " "))
		for random.Intn(3) == 0 {
			// One token goes, or stands elsewhere.
			from, to := random.Intn(len(text)), random.Intn(len(text))
			token := text[from]
			if random.Intn(2) == 0 {
				text[to] = token
			} else {
				text = slices.Insert(slices.Delete(text, from, from+1), to, token)
			}
		}
		compare(t, strings.Join(text, " "), 0)
	}
}

func TestP8_1LongTexts(t *testing.T) {
	for _, text := range []string{
		"{" + strings.Repeat("a=1;", 4095) + "} ", "{" + strings.Repeat("loop 1{}", 2047) + "}", "{x=" + strings.Repeat("a+", 8189) + "1;}",
		"{" + strings.Repeat("if(a){if(b){if(c){}}}", 744) + "}", "{" + strings.Repeat("if(a){}else{}", 1260) + "}", strings.Repeat("{", 16384), "{" + strings.Repeat("a=1;", 4095),
	} {
		compare(t, text, 0)
	}
}

func TestP8_1OtherArguments(t *testing.T) {
	// What Parse returns for them is not specified, but each call ends.
	odd := [][]api.Token{
		nil, {}, {{}}, {{Kind: api.TEnd}}, {{Kind: api.TSign}}, {{Kind: 99, Text: "{"}},
		{{Kind: api.TSign, Text: "{"}}, {{Kind: api.TSign, Text: "{"}, {Kind: api.TSign, Text: "}"}}, {{Kind: api.TSign, Text: "{", At: -1}, {Kind: api.TName, Text: "if"}},
		{{Kind: api.TSign, Text: "{"}, {Kind: api.TName, Text: "loop"}, {Kind: api.TNum, N: -1, Text: "x"}, {Kind: api.TSign, Text: "{"}, {Kind: api.TSign, Text: "}"}, {Kind: api.TSign, Text: "}"}},
		slices.Repeat([]api.Token{{Kind: api.TSign, Text: "{"}, {Kind: api.TName, Text: "loop"}, {Kind: api.TNum}}, 1<<16),
		append([]api.Token{{Kind: api.TSign, Text: "{"}}, slices.Repeat([]api.Token{{Kind: api.TName, Text: "cancel"}, {Kind: api.TName, Text: "t"}, {Kind: api.TSign, Text: ";"}}, 1<<16)...),
		slices.Repeat([]api.Token{{Kind: api.TEnd, Text: "{"}, {Kind: api.TEnd}}, 5),
	}
	for k, l := range odd {
		for _, at := range []int{0, 1, -1, len(l), len(l) + 1, math.MaxInt, math.MinInt} {
			if b, end, f := act.Parse(l, at); f.Code != api.OK && (end != 0 || len(b) != 0) {
				t.Errorf("%d: Parse at %d = %v, %d, %v", k, at, b, end, f)
			}
		}
	}
}

func TestP8_1ResultsAreNew(t *testing.T) {
	const text = "{x = a + 1; if (a) {send p e(a); cancel t;} else {raise f; loop 2 {cancel t;}} arm t(2);}"
	l := tokens(t, text)
	given := slices.Clone(l)
	first, _, _ := act.Parse(l, 0)
	second, _, _ := act.Parse(l, 0)
	want := told(second)
	spoil(first)
	if !slices.Equal(l, given) {
		t.Errorf("the tokens became %v; want %v", l, given)
	}
	for k := range l {
		l[k] = api.Token{}
	}
	act.Parse(tokens(t, "{cancel u; y = 2; raise g(7);}"), 0)
	if told(second) != want {
		t.Errorf("Parse(%q) became %v; want %v", text, told(second), want)
	}
}

// spoil overwrites all slices of a block, with their unused capacity.
func spoil(l []api.Act) {
	l = l[:cap(l)]
	for k := range l {
		spoil(l[k].Then)
		spoil(l[k].Else)
		for x := range l[k].X {
			l[k].X[x] = api.Expr{Kind: 9, Name: "other"}
		}
		l[k] = api.Act{Kind: 9, Name: "other"}
	}
}

func TestP8_2RightFields(t *testing.T) {
	// Each value of each field: whether all is right, Parse says of the text.
	good, wrong := name("a"), []api.Expr{{}}
	for kind := -1; kind <= 9; kind++ {
		for _, s := range []string{"", "b", "in"} {
			for _, event := range []string{"", "e", "on"} {
				for _, n := range []int{0, 1, -1} {
					for x, exprs := range [][]api.Expr{nil, good, wrong, {good[0], good[0]}, {good[0], wrong[0]}} {
						for then, inner := range [][]api.Act{nil, block(cancel("t")), block(cancel("")), block(cancel("t"), set("t", nil))} {
							for or, other := range [][]api.Act{{}, block(cancel("t")), block(cancel("")), block(cancel("t"), set("t", nil))} {
								named, sent := kind == api.ASet || kind == api.ASend || kind == api.AArm || kind == api.ACancel, kind == api.ARaise || kind == api.ASend
								most := 1
								if kind == api.ACancel || kind == api.ALoop {
									most = 0
								}
								want := kind >= api.ASet && kind <= api.ALoop && s == map[bool]string{true: "b"}[named] && event == map[bool]string{true: "e"}[sent] &&
									(n == 0 || n == 1 && kind == api.ALoop) && (x == most || x == 0 && sent) &&
									(then == 0 || then == 1 && (kind == api.AIf || kind == api.ALoop)) && (or == 0 || or == 1 && kind == api.AIf)
								a := api.Act{Kind: kind, Name: s, Event: event, N: n, X: exprs, Then: inner, Else: other, At: -7}
								right(t, want, a)
								right(t, want, cancel("t"), a)
								right(t, want, a, cancel("t"))
								right(t, want, loop(1, []api.Act{a}))
								right(t, want, when(good, nil, []api.Act{a}))
							}
						}
					}
				}
			}
		}
	}
	right(t, true)
	for _, kind := range []int{99, math.MaxInt, math.MinInt} {
		right(t, false, api.Act{Kind: kind})
	}
	right(t, true, loop(math.MaxInt64, nil))
	right(t, false, loop(math.MinInt64, nil))
}

func TestP8_2RightNames(t *testing.T) {
	for s, want := range map[string]bool{"x": true, "_": true, "Z9": true, "error": true, "inn": true, strings.Repeat("n", 24): true, strings.Repeat("n", 25): false, "": false, "9": false, "a b": false, " a": false, "a ": false, "a#": false, "é": false, "(a)": false, "a;": false, "a = 1; b": false, "a\x00": false, strings.Repeat("n", 1<<20): false} {
		for _, a := range []api.Act{set(s, num(1)), raise(s, nil), raise(s, num(1)), send(s, "e", nil), send("p", s, num(1)), arm(s, num(1)), cancel(s), set("x", name(s))} {
			right(t, want, a)
		}
	}
	for _, s := range strings.Fields(keywords) {
		for _, a := range []api.Act{set(s, num(1)), raise(s, nil), send(s, "e", nil), send("p", s, nil), arm(s, num(1)), cancel(s)} {
			right(t, false, a)
		}
	}
}

func TestP8_2RightDepth(t *testing.T) {
	x := name("a")
	for n := 1; n <= 8; n++ {
		deep := deepest(n)
		right(t, n <= 4, deep...)
		right(t, n <= 3, loop(1, deep))
		right(t, n <= 3, when(x, deep, nil))
		right(t, n <= 3, when(x, nil, deep))
		right(t, n <= 3, when(x, block(cancel("t")), deep))
		right(t, n <= 2, when(x, nil, block(cancel("t"), loop(1, deep))))
		right(t, n <= 4, append(slices.Clone(deepest(4)), append(deep, deepest(4)...)...)...)
	}
	// What is open in an expression is counted apart.
	e := x[0]
	for n := range 16 {
		right(t, n <= 12, loop(1, block(loop(1, block(when([]api.Expr{e}, nil, nil), set("x", []api.Expr{e}))))))
		e = api.Expr{Kind: api.ENot, Kids: []api.Expr{e}}
	}
}

func TestP8_2RightLength(t *testing.T) {
	// How many actions have room in a source of MaxText bytes, each as short as can be.
	x := name("a")
	inside := block(cancel("t"))
	for k, c := range []struct {
		text string
		a    api.Act
	}{
		{"a=a;", set("a", x)}, {"raise e;", raise("e", nil)}, {"raise e(a);", raise("e", x)}, {"send p e;", send("p", "e", nil)}, {"send p e(a);", send("p", "e", x)},
		{"arm t(a);", arm("t", x)}, {"cancel t;", cancel("t")}, {"loop 9{}", loop(9, nil)}, {"loop 12{cancel t;}", loop(12, inside)}, {"loop 9223372036854775807{}", loop(math.MaxInt64, nil)},
		{"if(a){}", when(x, nil, nil)}, {"if(a){cancel t;}", when(x, inside, nil)}, {"if(a){}else{cancel t;}", when(x, nil, inside)}, {"if(a){cancel t;}else{cancel t;}", when(x, inside, inside)},
		{"a=a+a;", set("a", sum(x, x))}, {"if(a<a){}", when(less(x, x), nil, nil)}, {"a=a+(a<a);", set("a", sum(x, less(x, x)))}, {"a=in(s);", set("a", []api.Expr{{Kind: api.EIn, Name: "s"}})}, {"a=!-$;", set("a", []api.Expr{{Kind: api.ENot, Kids: []api.Expr{{Kind: api.ENeg, Kids: []api.Expr{{Kind: api.EArg}}}}}})},
		{"if(a){loop 1{}loop 1{cancel t;}}else{cancel t;}", when(x, block(loop(1, nil), loop(1, inside)), inside)},
	} {
		most := (16384 - 2) / len(c.text)
		pad := (16384 - 2) % len(c.text)
		l := slices.Repeat([]api.Act{c.a}, most)
		text := "{" + strings.Repeat(c.text, most) + "}"
		right(t, true, l...)
		right(t, false, append(slices.Clone(l), c.a)...)
		if !alike(parsed(t, text), l) || len(text)+pad != api.MaxText {
			t.Errorf("%d: %d bytes are not the shortest text", k, len(text))
		}
		if pad >= 4 && pad <= 27 {
			// What is left is just enough for a name that is as long.
			right(t, true, append(slices.Clone(l), set(strings.Repeat("n", pad-3), num(1)))...)
			right(t, pad == 27, append(slices.Clone(l), set(strings.Repeat("n", min(pad-2, 24)), num(1)))...)
			right(t, true, append(block(set(strings.Repeat("n", pad-3), num(1))), l...)...)
		}
	}
	right(t, false, slices.Repeat(block(cancel("t")), 1<<20)...)
	right(t, false, loop(1, slices.Repeat(block(loop(1, nil)), 1<<20)))
}

func TestP8_2RightSharedBlocks(t *testing.T) {
	// As a tree it has 2^48 actions: no source is as long.
	l := slices.Repeat(block(cancel("t")), 1<<12)
	for range 3 {
		l = slices.Repeat(block(loop(1, l)), 1<<12)
	}
	right(t, false, l...)
}

func TestP8_2RightEveryBlock(t *testing.T) {
	random := rand.New(rand.NewSource(82))
	for range 20000 {
		l := grown(random, 4)
		right(t, true, l...)
		// One place is another then: whether it is right, Parse says of its text.
		odd := changed(random, l)
		want := false
		if tokens, f := lex.All(full(odd, 0)); f.Code == api.OK {
			got, _, f := act.Parse(tokens, 0)
			want = f.Code == api.OK && alike(got, odd)
		}
		right(t, want, odd...)
	}
}

// changed is a copy of a block with another field somewhere.
func changed(random *rand.Rand, l []api.Act) []api.Act {
	l = append(bare(l), cancel("t"))
	a := &l[random.Intn(len(l))]
	for random.Intn(3) > 0 {
		inner := [][]api.Act{a.Then, a.Else}[random.Intn(2)]
		if len(inner) == 0 {
			break
		}
		a = &inner[random.Intn(len(inner))]
	}
	words := []string{"", "b", "in", "on", "a b", "7", "b)", "b; cancel b", "#", "\n", strings.Repeat("b", 25)}
	switch random.Intn(7) {
	case 0:
		a.Kind = random.Intn(10) - 1
	case 1:
		a.Name = words[random.Intn(len(words))]
	case 2:
		a.Event = words[random.Intn(len(words))]
	case 3:
		a.N = []int{0, 1, -1, math.MaxInt64, math.MinInt64}[random.Intn(5)]
	case 4:
		a.X = append(a.X, api.Expr{Kind: random.Intn(4), Name: words[random.Intn(3)]})
	case 5:
		a.X = nil
	case 6:
		a.Then, a.Else = a.Else, append(a.Then, grown(random, 2)...)
	}
	return l
}

func TestP8_2PrintExamples(t *testing.T) {
	prints(t, "{\n  raise e(1);\n  loop 2 {}\n}", raise("e", num(1)), loop(2, nil))
	prints(t, "{}")
	x := less(name("a"), num(1))
	prints(t, "{\n  x = a < 1;\n}", set("x", x))
	prints(t, "{\n  raise e;\n}", raise("e", nil))
	prints(t, "{\n  raise e(a < 1);\n}", raise("e", x))
	prints(t, "{\n  send p e;\n}", send("p", "e", nil))
	prints(t, "{\n  send p e(a < 1);\n}", send("p", "e", x))
	prints(t, "{\n  arm t(a < 1);\n}", arm("t", x))
	prints(t, "{\n  cancel t;\n}", cancel("t"))
	prints(t, "{\n  if (a < 1) {}\n}", when(x, nil, nil))
	prints(t, "{\n  if (a < 1) {}\n}", when(x, []api.Act{}, []api.Act{}))
	prints(t, "{\n  if (a < 1) {\n    cancel t;\n  }\n}", when(x, block(cancel("t")), nil))
	prints(t, "{\n  if (a < 1) {} else {\n    cancel t;\n  }\n}", when(x, nil, block(cancel("t"))))
	prints(t, "{\n  if (a < 1) {\n    cancel t;\n  } else {\n    cancel u;\n  }\n}", when(x, block(cancel("t")), block(cancel("u"))))
	prints(t, "{\n  loop 0 {}\n  loop 9223372036854775807 {\n    loop 16 {\n      cancel t;\n    }\n  }\n}", loop(0, nil), loop(math.MaxInt64, block(loop(16, block(cancel("t"))))))
	if got, want := act.Print(block(loop(2, block(cancel("t"))), raise("e", nil)), 2), "{\n      loop 2 {\n        cancel t;\n      }\n      raise e;\n    }"; got != want {
		t.Errorf("at level 2: %q; want %q", got, want)
	}
}

func TestP8_2PrintLevels(t *testing.T) {
	random := rand.New(rand.NewSource(83))
	for range 2000 {
		l := grown(random, 4)
		for _, in := range []int{0, 1, 2, 3, 17, 100} {
			if got, want := act.Print(l, in), full(l, in); got != want {
				t.Fatalf("Print(%s, %d) = %q; want %q", told(l), in, got, want)
			}
		}
		for _, in := range []int{-1, -2, math.MinInt} {
			if got, want := act.Print(l, in), full(l, 0); got != want {
				t.Fatalf("Print(%s, %d) = %q; want %q", told(l), in, got, want)
			}
		}
	}
	l := block(loop(2, block(cancel("t"))))
	if got, want := act.Print(l, 1<<20), full(l, 1<<20); got != want {
		t.Errorf("a block at level 2^20 has %d bytes; want %d", len(got), len(want))
	}
}

func TestP8_2PrintGreatLevels(t *testing.T) {
	// A block that has a line at such a level is longer than anything that is promised, but each call ends.
	for _, in := range []int{1 << 30, math.MaxInt32, 1 << 40, math.MaxInt - 1, math.MaxInt} {
		if s := act.Print(nil, in); s != "{}" {
			t.Errorf("Print(nil, %d) = %q", in, s)
		}
		for _, l := range [][]api.Act{block(cancel("t")), block(loop(2, block(cancel("t")))), deepest(4)} {
			if s := act.Print(l, in); s != "" {
				t.Errorf("Print at level %d has %d bytes", in, len(s))
			}
		}
	}
	if s := act.Print(slices.Repeat(block(cancel("t")), 4), 1<<29); s != "" {
		t.Errorf("Print of five lines at level 2^29 has %d bytes", len(s))
	}
}

func TestP8_2OtherBlocks(t *testing.T) {
	// What Print returns for them is not specified, but each call ends.
	for kind := -1; kind <= 9; kind++ {
		for count := range 3 {
			x := slices.Repeat([]api.Expr{{Kind: api.ENeg}}, count)
			a := api.Act{Kind: kind, Name: "\xff", Event: "}", N: math.MinInt, X: x, Then: block(cancel("")), Else: block(api.Act{})}
			for _, l := range [][]api.Act{block(a), block(loop(-1, block(a))), block(a, a)} {
				act.Print(l, kind)
				right(t, false, l...)
				if !act.Same(l, l) {
					t.Errorf("%v is not the same as itself", l)
				}
			}
		}
	}
	for _, n := range []int{100, 1 << 16} {
		l := deepest(n)
		right(t, false, l...)
		if !act.Same(l, l) || n == 100 && act.Print(l, 0) != full(l, 0) || n > 100 && act.Print(l, 0) != "" {
			t.Errorf("%d blocks in one another", n)
		}
		l = nil
		for range n - 1 {
			l = block(when(num(1), nil, l))
		}
		right(t, false, l...)
		if !act.Same(l, l) || n == 100 && act.Print(l, 0) != full(l, 0) || n > 100 && act.Print(l, 0) != "" {
			t.Errorf("%d blocks behind else in one another", n)
		}
	}
}

func TestP8_2Same(t *testing.T) {
	same := func(x, y []api.Act, want bool) {
		t.Helper()
		if act.Same(x, y) != want || act.Same(y, x) != want {
			t.Errorf("Same(%s, %s) = %t, or the other way round; want %t", told(x), told(y), act.Same(x, y), want)
		}
	}
	same(nil, []api.Act{}, true)
	same(nil, block(api.Act{}), false)
	same(block(api.Act{At: 1}), block(api.Act{At: -2, X: []api.Expr{}, Then: []api.Act{}, Else: []api.Act{}}), true)
	all := every(2)
	for i, x := range all {
		for j, y := range all {
			same(x, y, i == j)
		}
	}
	a := api.Act{Kind: api.AIf, Name: "n", Event: "e", X: num(1), N: 3, Then: block(cancel("t")), Else: block(cancel("u")), At: 5}
	for k := range 11 {
		b := a
		switch k {
		case 0:
			b.Kind = api.ALoop
		case 1:
			b.Name = "N"
		case 2:
			b.Event = ""
		case 3:
			b.X = num(2)
		case 4:
			b.X = nil
		case 5:
			b.X = []api.Expr{a.X[0], a.X[0]}
		case 6:
			b.N = -3
		case 7:
			b.Then = nil
		case 8:
			b.Then = block(cancel("t"), cancel("t"))
		case 9:
			b.Else = block(cancel("t"))
		case 10:
			b.Then, b.Else = a.Else, a.Then
		}
		same(block(a), block(b), false)
		same(block(cancel("t"), a), block(cancel("t"), b), false)
		same(block(a, a), block(a, b), false)
		same(block(loop(1, block(a))), block(loop(1, block(b))), false)
		same(block(a), block(a, b), false)
	}
	random := rand.New(rand.NewSource(84))
	for range 5000 {
		l := grown(random, 4)
		same(l, moved(random, l), true)
		odd := changed(random, l)
		same(moved(random, odd), l, alike(odd, l))
	}
}

// moved is a copy of a block with other places.
func moved(random *rand.Rand, l []api.Act) []api.Act {
	out := make([]api.Act, 0, len(l)+2)
	for _, a := range l {
		a.At = random.Int()
		x := make([]api.Expr, 0, 2)
		for _, e := range a.X {
			e.At = random.Int()
			x = append(x, e)
		}
		a.X, a.Then, a.Else = x, moved(random, a.Then), moved(random, a.Else)
		out = append(out, a)
	}
	return out
}

func TestP8_2ArgumentsStay(t *testing.T) {
	random := rand.New(rand.NewSource(85))
	for range 1000 {
		l := moved(random, grown(random, 4))
		before := told(l)
		text := act.Print(l, 1)
		act.Right(l)
		act.Same(l, moved(random, l))
		if told(l) != before || !unused(l) {
			t.Fatalf("%s became %s", before, told(l))
		}
		if again := act.Print(moved(random, l), 1); again != text {
			t.Fatalf("Print = %q, and %q for other places", text, again)
		}
	}
}

// unused reports whether the unused capacity of a block has nothing in it.
func unused(l []api.Act) bool {
	if told(l[len(l):cap(l)]) != strings.Repeat("\n0 at 0", cap(l)-len(l)) {
		return false
	}
	return !slices.ContainsFunc(l, func(a api.Act) bool { return !unused(a.Then) || !unused(a.Else) })
}

// again expects that the text of a block at each level is that block.
func again(t *testing.T, l []api.Act) {
	t.Helper()
	for _, in := range []int{0, 1, 5, -1} {
		text := act.Print(l, in)
		got := parsed(t, text)
		if !act.Same(got, l) || !alike(got, l) || !act.Right(got) || act.Print(got, in) != text {
			t.Fatalf("%q is parsed as %s; want %s", text, told(got), told(l))
		}
	}
}

func TestP8_3EveryBlock(t *testing.T) {
	for _, l := range every(3)[:5000] {
		right(t, true, l...)
		again(t, l)
	}
}

func TestP8_3MixedBlocks(t *testing.T) {
	random := rand.New(rand.NewSource(86))
	for range 3000 {
		l := grown(random, 4)
		right(t, true, l...)
		again(t, l)
	}
}

func TestP8_3ParsedIsRight(t *testing.T) {
	check := func(text string) {
		l := tokens(t, text)
		b, end, f := act.Parse(l, 0)
		if f.Code != api.OK {
			return
		}
		right(t, true, b...)
		again(t, b)
		if before := parsed(t, text[:l[end-1].End]); told(before) != told(b) {
			t.Fatalf("Parse(%q) = %s, but %s without what follows", text, told(b), told(before))
		}
	}
	each("{ ", []string{"x = 1 ;", "raise e", "( 2 )", ";", "if ( a ) {", "loop 3 {", "}", "else {", "cancel t ;"}, 6, check)
	check("{loop 1{loop 1{loop 1{x=" + strings.Repeat("(", 12) + "a" + strings.Repeat(")", 12) + ";}}}}")
}

func TestP8_3LongestText(t *testing.T) {
	// All of MaxText with as few spaces as can be is right, though its text has more bytes than can be parsed.
	text := "{" + strings.Repeat("a=1;", 4095) + "}"
	for _, text := range []string{text + "  ", "  " + text, "{" + strings.Repeat("if(a){raise e;}else{loop 1{}}", 564) + "raise nnnnnnnnnnnnnnnnn;  }"} {
		l := parsed(t, text)
		if len(text) != api.MaxText || !act.Right(l) || len(act.Print(l, 0)) <= api.MaxText {
			t.Errorf("a text of %d bytes: Right = %t, printed with %d bytes", len(text), act.Right(l), len(act.Print(l, 0)))
		}
	}
}

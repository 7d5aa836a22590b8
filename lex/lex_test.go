package lex_test

import (
	"math"
	"math/big"
	"math/rand"
	"regexp"
	"slices"
	"strings"
	"testing"

	"cotillion/api"
	"cotillion/lex"
)

const (
	signs    = "-> == != <= >= && || { } ( ) [ ] ; , . : = < > + - * / % ! $"
	keywords = "system age chart steps fuel var port timer state parallel history deep entry exit on auto raise send arm cancel " +
		"if else loop in inst quantum ext prio chan cap cert insts chans cell off"
)

// The document's words once more, to hold the package against them.
var (
	blanks = regexp.MustCompile(`^(?:[\x20\x09\x0A\x0D]|#[^\x0A]*)*`)
	pieces = regexp.MustCompile(`^(?:([a-zA-Z_][a-zA-Z_0-9]*)|([0-9]+)|->|==|!=|<=|>=|&&|\|\||[{}()\[\];,.:=<>+\-*/%!$])`)
	names  = regexp.MustCompile(`\A[a-zA-Z_][a-zA-Z_0-9]{0,23}\z`)
)

// plain returns what All should return, read by the patterns above.
func plain(text string) ([]api.Token, api.Fault) {
	if len(text) > api.MaxText {
		return nil, api.Fault{Code: api.ErrLong, At: api.MaxText}
	}
	var l []api.Token
	for at := 0; ; at = l[len(l)-1].End {
		at += len(blanks.FindString(text[at:]))
		if at == len(text) {
			return append(l, ending(text)), api.Fault{}
		}
		found := pieces.FindStringSubmatch(text[at:])
		if found == nil {
			return nil, api.Fault{Code: api.ErrByte, At: at}
		}
		t := api.Token{Kind: api.TSign, At: at, End: at + len(found[0]), Text: found[0]}
		switch {
		case found[1] != "":
			t.Kind = api.TName
			if len(found[1]) > 24 {
				return nil, api.Fault{Code: api.ErrLong, At: at}
			}
		case found[2] != "":
			t.Kind = api.TNum
			n, _ := new(big.Int).SetString(found[2], 10)
			if found[2][0] == '0' && len(found[2]) > 1 {
				return nil, api.Fault{Code: api.ErrToken, At: at}
			}
			if !n.IsInt64() {
				return nil, api.Fault{Code: api.ErrRange, At: at}
			}
			t.N = n.Int64()
		}
		l = append(l, t)
	}
}

// ending returns the last token of a text.
func ending(text string) api.Token {
	return api.Token{Kind: api.TEnd, At: len(text), End: len(text)}
}

// expect holds what All returns against what it should return.
func expect(t *testing.T, text string, want []api.Token, fault api.Fault) {
	t.Helper()
	got, f := lex.All(text)
	if f != fault || !slices.Equal(got, want) {
		t.Errorf("All(%.200q) = %.20v, %v; want %.20v, %v", text, got, f, want, fault)
	}
}

// refuse expects that All returns just a Fault.
func refuse(t *testing.T, text string, code api.Errno, at int) {
	t.Helper()
	expect(t, text, nil, api.Fault{Code: code, At: at})
}

// whole expects that a text is one token, by itself and between two signs.
func whole(t *testing.T, kind int, text string, n int64) {
	t.Helper()
	k := len(text)
	one := api.Token{Kind: kind, End: k, Text: text, N: n}
	expect(t, text, []api.Token{one, ending(text)}, api.Fault{})
	one.At, one.End = 2, k+2
	first := api.Token{Kind: api.TSign, End: 1, Text: ";"}
	last := api.Token{Kind: api.TSign, At: k + 3, End: k + 4, Text: ";"}
	padded := "; " + text + " ;"
	expect(t, padded, []api.Token{first, one, last, ending(padded)}, api.Fault{})
}

// each calls f with begun and with every string that goes on from it with at most most of the parts.
func each(begun string, parts []string, most int, f func(string)) {
	f(begun)
	if most == 0 {
		return
	}
	for _, p := range parts {
		each(begun+p, parts, most-1, f)
	}
}

// bytes returns every byte as a string.
func bytes() []string {
	var l []string
	for b := range 256 {
		l = append(l, string([]byte{byte(b)}))
	}
	return l
}

// mixed returns many texts, put together by chance; half of them have invalid parts too.
func mixed() []string {
	random := rand.New(rand.NewSource(6))
	valid := append(strings.Fields(signs), strings.Fields(keywords)...)
	valid = append(valid, "x", "_", "go", "Z9", "a_b", "0", "1", "42", "9223372036854775807", " ", "  ", "\t", "\n", "\r\n", "# no\n", "#\n", "#é\x00@\r#\n")
	invalid := []string{"@", "&", "|", "^", "~", "'", "\"", "\\", "`", "?", "\x00", "\v", "é", "\xff", "00", "007", "9223372036854775808", strings.Repeat("k", 25)}
	var l []string
	for k := range 4000 {
		var b strings.Builder
		for range random.Intn(40) {
			b.WriteString(valid[random.Intn(len(valid))])
			if k%2 == 1 && random.Intn(20) == 0 {
				b.WriteString(invalid[random.Intn(len(invalid))])
			}
		}
		l = append(l, b.String())
	}
	return l
}

func TestP6_1Examples(t *testing.T) {
	expect(t, "a->12 # no", []api.Token{
		{Kind: api.TName, At: 0, End: 1, Text: "a"},
		{Kind: api.TSign, At: 1, End: 3, Text: "->"},
		{Kind: api.TNum, At: 3, End: 5, Text: "12", N: 12},
		{Kind: api.TEnd, At: 10, End: 10},
	}, api.Fault{})
	refuse(t, "x = 007;", api.ErrToken, 4)
	refuse(t, "a & b", api.ErrByte, 2)
}

func TestP6_1NoTokens(t *testing.T) {
	for _, text := range []string{"", " ", "\t", "\n", "\r", " \t\r\n", "#", "##", "# 007 @ &", "#\n", "# a\n# b", "\n\n#\r\n", strings.Repeat(" ", api.MaxText)} {
		expect(t, text, []api.Token{ending(text)}, api.Fault{})
	}
}

func TestP6_1Comments(t *testing.T) {
	a := func(at int) api.Token { return api.Token{Kind: api.TName, At: at, End: at + 1, Text: "a"} }
	for text, want := range map[string][]api.Token{
		"a#a":         {a(0)},
		"a# a\na":     {a(0), a(5)},
		"#\na":        {a(2)},
		"#a#\n#a\na#": {a(7)},
		// Only byte 10 ends a comment.
		"#\ra":                                  {},
		"#\r\na":                                {a(3)},
		"#\x00\xff\v\f\u2028\u0085":             {},
		"a#\xffé\x00@007\na":                    {a(0), a(11)},
		"a#" + strings.Repeat("#", 200) + "\na": {a(0), a(203)},
	} {
		expect(t, text, append(want, ending(text)), api.Fault{})
	}
}

func TestP6_1Signs(t *testing.T) {
	for _, s := range strings.Fields(signs) {
		whole(t, api.TSign, s, 0)
	}
	for text, want := range map[string]string{
		"-->": "- ->", "->>": "-> >", "->=": "-> =", ">->": "> ->", "<->": "< ->", "<==": "<= =", "===": "== =", "====": "== ==", "=!=": "= !=", "!==": "!= =", "!!=": "! !=",
		">==": ">= =", ">>=": "> >=", "<<=": "< <=", "=>": "= >", "=<": "= <", "<>": "< >", "&&&&": "&& &&", "||||": "|| ||", "&&||": "&& ||", "||&&": "|| &&", "- >": "- >", "< =": "< =", "= =": "= =",
		"{}()[];,.:+*/%$": "{ } ( ) [ ] ; , . : + * / % $",
	} {
		got, f := lex.All(text)
		var texts []string
		for _, k := range got {
			if k.Kind == api.TSign {
				texts = append(texts, k.Text)
			}
		}
		if f != (api.Fault{}) || strings.Join(texts, " ") != want {
			t.Errorf("All(%q) = %v, %v; want %s", text, got, f, want)
		}
	}
}

func TestP6_1Names(t *testing.T) {
	for _, s := range append(strings.Fields(keywords), "a", "z", "A", "Z", "_", "__", "a0", "z9", "_0", "a_b", "aZ", "System", "OFF", "onx", "error", strings.Repeat("n", 24), "_"+strings.Repeat("9", 23)) {
		whole(t, api.TName, s, 0)
	}
	for _, s := range []string{strings.Repeat("n", 25), strings.Repeat("n", 24) + "9", "_" + strings.Repeat("9", 24), strings.Repeat("A_", 100), strings.Repeat("z", api.MaxText-4)} {
		refuse(t, s, api.ErrLong, 0)
		refuse(t, "a\n- "+s, api.ErrLong, 4)
	}
}

func TestP6_1Numbers(t *testing.T) {
	for text, n := range map[string]int64{
		"0": 0, "1": 1, "9": 9, "10": 10, "100": 100, "12": 12, "4294967296": 1 << 32, "1000000000000000000": 1e18,
		"9223372036854775799": math.MaxInt64 - 8, "9223372036854775806": math.MaxInt64 - 1, "9223372036854775807": math.MaxInt64,
	} {
		whole(t, api.TNum, text, n)
	}
	for _, text := range []string{"9223372036854775808", "9223372036854775809", "9999999999999999999", "10000000000000000000", "18446744073709551615", "18446744073709551616", "18446744073709551617", "36893488147419103232", "1" + strings.Repeat("0", 900)} {
		refuse(t, text, api.ErrRange, 0)
		refuse(t, "- "+text+" 00", api.ErrRange, 2)
	}
	// A number that is wrong in both ways starts with 0 above all.
	for _, text := range []string{"00", "01", "007", "09", "0000000000000000000000000", "09223372036854775808", "0" + strings.Repeat("9", 900)} {
		refuse(t, text, api.ErrToken, 0)
		refuse(t, "a-"+text+" @", api.ErrToken, 2)
	}
}

func TestP6_1NumbersAndNames(t *testing.T) {
	expect(t, "12ab", []api.Token{{Kind: api.TNum, End: 2, Text: "12", N: 12}, {Kind: api.TName, At: 2, End: 4, Text: "ab"}, ending("12ab")}, api.Fault{})
	expect(t, "0_0", []api.Token{{Kind: api.TNum, End: 1, Text: "0"}, {Kind: api.TName, At: 1, End: 3, Text: "_0"}, ending("0_0")}, api.Fault{})
	expect(t, "-0x1", []api.Token{{Kind: api.TSign, End: 1, Text: "-"}, {Kind: api.TNum, At: 1, End: 2, Text: "0"}, {Kind: api.TName, At: 2, End: 4, Text: "x1"}, ending("-0x1")}, api.Fault{})
	expect(t, "1e9", []api.Token{{Kind: api.TNum, End: 1, Text: "1", N: 1}, {Kind: api.TName, At: 1, End: 3, Text: "e9"}, ending("1e9")}, api.Fault{})
	refuse(t, "00a", api.ErrToken, 0)
	refuse(t, "1"+strings.Repeat("a", 25), api.ErrLong, 1)
	refuse(t, "a1é", api.ErrByte, 2)
}

func TestP6_1EveryByte(t *testing.T) {
	for b, s := range bytes() {
		switch {
		case strings.Contains(" \t\n\r#", s):
			expect(t, s, []api.Token{ending(s)}, api.Fault{})
		case names.MatchString(s):
			whole(t, api.TName, s, 0)
		case "0" <= s && s <= "9":
			whole(t, api.TNum, s, int64(b-'0'))
		case slices.Contains(strings.Fields(signs), s):
			whole(t, api.TSign, s, 0)
		default:
			refuse(t, s, api.ErrByte, 0)
			refuse(t, "a"+s+"a", api.ErrByte, 1)
			refuse(t, "12 "+s, api.ErrByte, 3)
			refuse(t, "<"+s, api.ErrByte, 1)
			refuse(t, "# \n"+s, api.ErrByte, 3)
		}
	}
	for _, s := range []string{"&|", "|&", "& &", "| |", "&=", "|=", "&a&", "|->", "ä", "１", "\u00a0", "\ufeff", "\xff\xfe", "\x80"} {
		refuse(t, s, api.ErrByte, 0)
	}
	refuse(t, "&&&", api.ErrByte, 2)
	refuse(t, "|||", api.ErrByte, 2)
	refuse(t, "&&&|", api.ErrByte, 2)
}

func TestP6_1FirstFault(t *testing.T) {
	long, great := strings.Repeat("n", 25), "9223372036854775808"
	wrong := map[string]api.Errno{"@": api.ErrByte, "|": api.ErrByte, long: api.ErrLong, "007": api.ErrToken, great: api.ErrRange}
	for a, code := range wrong {
		for b := range wrong {
			refuse(t, a+" "+b, code, 0)
			refuse(t, "on x # "+b+"\n->"+a+" "+b, code, 10+len(b))
		}
	}
}

func TestP6_1TooLong(t *testing.T) {
	full := strings.Repeat(" ", api.MaxText)
	for _, text := range []string{full + " ", full + "@", "@" + full, "007" + full, "#" + full, strings.Repeat("a", api.MaxText+1), strings.Repeat("a ", api.MaxText), strings.Repeat("\x00", 1<<20)} {
		refuse(t, text, api.ErrLong, api.MaxText)
	}
	refuse(t, full[1:]+"@", api.ErrByte, api.MaxText-1)
	refuse(t, "@"+full[1:], api.ErrByte, 0)
	refuse(t, strings.Repeat("a", api.MaxText), api.ErrLong, 0)
	refuse(t, strings.Repeat("9", api.MaxText), api.ErrRange, 0)
	refuse(t, strings.Repeat("0", api.MaxText), api.ErrToken, 0)
	most := strings.Repeat(";", api.MaxText)
	if got, f := lex.All(most); f != (api.Fault{}) || len(got) != api.MaxText+1 || got[api.MaxText] != ending(most) {
		t.Errorf("All of %d signs = %d tokens, %v", api.MaxText, len(got), f)
	}
}

func TestP6_1ShortTexts(t *testing.T) {
	compare := func(text string) {
		want, fault := plain(text)
		expect(t, text, want, fault)
	}
	each("", bytes(), 2, compare)
	each("", strings.Split("-><=!&|{a_Z09;$# \n@\x80", ""), 3, compare)
	each("", strings.Split("->=<!&|a0# \n", ""), 4, compare)
}

func TestP6_1MixedTexts(t *testing.T) {
	for _, text := range mixed() {
		want, fault := plain(text)
		expect(t, text, want, fault)
	}
}

func TestP6_1ResultsAreNew(t *testing.T) {
	const text = "on go [x <= 12] -> b;"
	want, _ := plain(text)
	first, _ := lex.All(text)
	second, _ := lex.All(text)
	first = first[:cap(first)]
	for k := range first {
		first[k] = api.Token{Kind: 9, At: 9, End: 9, Text: "other", N: 9}
	}
	if !slices.Equal(second, want) {
		t.Errorf("All(%q) became %v; want %v", text, second, want)
	}
	expect(t, text, want, api.Fault{})
	lex.All("@")
	lex.All("a b c d e f g h i j")
	if !slices.Equal(second, want) {
		t.Errorf("All(%q) became %v; want %v", text, second, want)
	}
}

func TestP6_2Keywords(t *testing.T) {
	for _, s := range strings.Fields(keywords) {
		if !lex.Reserved(s) || lex.Name(s) {
			t.Errorf("%q: Reserved = %t, Name = %t; want true, false", s, lex.Reserved(s), lex.Name(s))
		}
		for _, other := range []string{s + "x", "x" + s, s + "_", s + "1", "_" + s, s + s, strings.ToUpper(s), strings.ToUpper(s[:1]) + s[1:]} {
			if lex.Reserved(other) || !lex.Name(other) {
				t.Errorf("%q: Reserved = %t, Name = %t; want false, true", other, lex.Reserved(other), lex.Name(other))
			}
		}
		for _, other := range []string{s + " ", " " + s, s + "\n", s + "\x00", "1" + s, s + ";", "#" + s} {
			if lex.Reserved(other) || lex.Name(other) {
				t.Errorf("%q: Reserved = %t, Name = %t; want false, false", other, lex.Reserved(other), lex.Name(other))
			}
		}
	}
}

func TestP6_2WordsThatAreNoKeywords(t *testing.T) {
	// Words of operations and records, of other statecharts, and parts of keywords and their plurals.
	for _, s := range strings.Fields("error start stop post tick run started ran idle stuck cost gone final initial root int bool true false not and or while for return func event guard target region sys hist para time caps charts states vars ports timers step els i o of se") {
		if lex.Reserved(s) || !lex.Name(s) {
			t.Errorf("%q: Reserved = %t, Name = %t; want false, true", s, lex.Reserved(s), lex.Name(s))
		}
	}
}

func TestP6_2ShortStrings(t *testing.T) {
	words := strings.Fields(keywords)
	compare := func(s string) {
		reserved := slices.Contains(words, s)
		if lex.Reserved(s) != reserved {
			t.Errorf("Reserved(%q) = %t", s, !reserved)
		}
		if name := names.MatchString(s) && !reserved; lex.Name(s) != name {
			t.Errorf("Name(%q) = %t", s, !name)
		}
	}
	each("", bytes(), 2, compare)
	each("", strings.Split("abcdefghijklmnopqrstuvwxyz_A0 ", ""), 3, compare)
	for _, s := range []string{"9a", "a-b", "a.b", "a b", "a#", "#a", "é", "aé", "\u212a", "ａ", "a\n", "\na", "a\r", "a\x00", "\x00", "->", "12", "error", "_9Z", "a\xff"} {
		compare(s)
	}
}

func TestP6_2Lengths(t *testing.T) {
	for n := range 60 {
		want := n >= 1 && n <= 24
		for _, s := range []string{strings.Repeat("z", n), strings.Repeat("_", n), strings.Repeat("A9", n)[:n]} {
			if lex.Name(s) != want || lex.Reserved(s) {
				t.Errorf("%q: Name = %t, Reserved = %t; want %t, false", s, lex.Name(s), lex.Reserved(s), want)
			}
		}
	}
	huge := strings.Repeat("a", 1<<20)
	if lex.Name(huge) || lex.Reserved(huge) || lex.Name("system"+huge) || lex.Reserved("system"+huge) {
		t.Error("a string of 2^20 bytes is a name or a keyword")
	}
}

func TestP6_3OrderAndOverlap(t *testing.T) {
	for _, text := range mixed() {
		l, f := lex.All(text)
		if f.Code != api.OK {
			continue
		}
		end := 0
		for k, token := range l {
			if token.At < end || token.End < token.At || token.End > len(text) || text[token.At:token.End] != token.Text {
				t.Fatalf("All(%q)[%d] = %v, after a token that ends at %d", text, k, token, end)
			}
			if gap := text[end:token.At]; blanks.FindString(gap) != gap {
				t.Fatalf("All(%q) has no token for %q", text, gap)
			}
			if (token.Kind == api.TEnd) != (k == len(l)-1) || (token.End == token.At) != (token.Kind == api.TEnd) {
				t.Fatalf("All(%q)[%d] of %d = %v", text, k, len(l), token)
			}
			end = token.End
		}
	}
}

func TestP6_3MoreWhiteSpace(t *testing.T) {
	more := []string{" ", "\t", "\n", "\r", "\r\n", " \n \t", "#\n", "# a->12 @ 007\n", "\n# one\n# two\n"}
	for k, text := range mixed() {
		l, f := lex.All(text)
		if f.Code != api.OK {
			continue
		}
		// White space of every kind comes in front of some token.
		var b strings.Builder
		var want []api.Token
		end := 0
		for i, token := range l {
			b.WriteString(text[end:token.At] + more[(i+k)%len(more)])
			end = token.End
			token.At = b.Len()
			token.End = token.At + len(token.Text)
			b.WriteString(token.Text)
			want = append(want, token)
		}
		expect(t, b.String(), want, api.Fault{})
	}
}

func TestP6_3MoreWhiteSpaceBeforeAFault(t *testing.T) {
	for _, text := range mixed() {
		_, f := lex.All(text)
		if f.Code != api.OK {
			refuse(t, " \t\r\n# no @\n"+text, f.Code, f.At+11)
			refuse(t, text[:f.At]+" \n"+text[f.At:], f.Code, f.At+2)
		}
	}
}

func TestP6_3NamesAreTokens(t *testing.T) {
	words := strings.Fields(keywords)
	check := func(s string) {
		l, f := lex.All(s)
		single := f.Code == api.OK && slices.Equal(l, []api.Token{{Kind: api.TName, End: len(s), Text: s}, ending(s)})
		if want := single && !slices.Contains(words, s); lex.Name(s) != want {
			t.Errorf("Name(%q) = %t, but All returns %v, %v", s, !want, l, f)
		}
	}
	each("", strings.Split("abinorf_Z09 -#\n\x80", ""), 3, check)
	for n := range 30 {
		check(strings.Repeat("q", n))
	}
	for _, s := range words {
		check(s)
		check(s + "0")
	}
}

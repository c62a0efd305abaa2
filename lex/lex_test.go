package lex_test

import (
	"fmt"
	"math"
	"math/big"
	"math/rand"
	"regexp"
	"slices"
	"strings"
	"testing"

	"catchment/api"
	"catchment/lex"
)

func word(s string, at int) api.Token { return api.Token{Kind: api.TokWord, S: s, At: at} }

func number(n, at int) api.Token { return api.Token{Kind: api.TokNumber, N: n, At: at} }

func text(s string, at int) api.Token { return api.Token{Kind: api.TokText, S: s, At: at} }

func sign(s string, at int) api.Token { return api.Token{Kind: api.TokSign, S: s, At: at} }

func wantTokens(t *testing.T, s string, want ...api.Token) {
	t.Helper()
	l, at, e := lex.Lex(s)
	if e != api.OK || at != 0 || !slices.Equal(l, want) {
		t.Errorf("Lex(%q) is %#v, %d, %d, not %#v", s, l, at, e, want)
	}
}

func wantNone(t *testing.T, s string, wantAt int, want api.Errno) {
	t.Helper()
	l, at, e := lex.Lex(s)
	if e != want || at != wantAt || len(l) != 0 {
		t.Errorf("Lex(%q) is %#v, %d, %d, not the error %d at %d", s, l, at, e, want, wantAt)
	}
}

// The shapes of the tokens, as the chapter has them.
var (
	blanks  = regexp.MustCompile(`^[ \t\n\r]*`)
	aWord   = regexp.MustCompile(`^[a-z][a-z0-9_]*`)
	aNumber = regexp.MustCompile(`^(0|-?[1-9][0-9]*)`)
	aText   = regexp.MustCompile(`^(?s:"([^"\\]|\\["\\])*")`)
	aSign   = regexp.MustCompile(`^(!=|<=|>=|[|,():=<>])`)
	ofWord  = regexp.MustCompile(`^[a-z0-9_]`)
	slashed = regexp.MustCompile(`\\(["\\])`)
)

// numberByRule is the number that s begins with, or none.
func numberByRule(s string) (t api.Token, n int) {
	x := aNumber.FindString(s)
	if x == "" || ofWord.MatchString(s[len(x):]) {
		return api.Token{}, 0
	}
	v, _ := new(big.Int).SetString(x, 10)
	if !v.IsInt64() {
		return api.Token{}, 0
	}
	return number(int(v.Int64()), 0), len(x)
}

// tokenByRule is the token that s begins with, or none.
func tokenByRule(s string) (t api.Token, n int) {
	if x := aWord.FindString(s); x != "" && len(x) <= 24 {
		return word(x, 0), len(x)
	}
	if x := aText.FindString(s); x != "" {
		if inner := slashed.ReplaceAllString(x[1:len(x)-1], "$1"); len(inner) <= 64 {
			return text(inner, 0), len(x)
		}
	}
	if x := aSign.FindString(s); x != "" {
		return sign(x, 0), len(x)
	}
	return numberByRule(s)
}

// byRule is the document's rule for Lex, word by word.
func byRule(s string) (l []api.Token, at int, e api.Errno) {
	if len(s) > 2048 {
		return nil, 0, api.ErrLong
	}
	for at = len(blanks.FindString(s)); at < len(s); at += len(blanks.FindString(s[at:])) {
		t, n := tokenByRule(s[at:])
		if n == 0 {
			return nil, at, api.ErrLex
		}
		t.At = at
		l = append(l, t)
		at += n
	}
	return l, 0, api.OK
}

func sameAsRule(t *testing.T, s string) {
	t.Helper()
	l, at, e := lex.Lex(s)
	wantL, wantAt, wantE := byRule(s)
	if e != wantE || at != wantAt || !slices.Equal(l, wantL) {
		t.Fatalf("Lex(%q) is %#v, %d, %d, not %#v, %d, %d", s, l, at, e, wantL, wantAt, wantE)
	}
}

func TestExamples(t *testing.T) {
	wantTokens(t, `keep a,-5`, word("keep", 0), word("a", 5), sign(",", 6), number(-5, 7))
	wantTokens(t, `a != "x\"y"`, word("a", 0), sign("!=", 2), text(`x"y`, 5))
	wantNone(t, `5a`, 0, api.ErrLex)
	wantNone(t, `a - 5`, 2, api.ErrLex)
	wantNone(t, `"a`, 0, api.ErrLex)
	wantNone(t, `007`, 0, api.ErrLex)
}

func TestP11_1Nothing(t *testing.T) {
	for _, s := range []string{"", " ", "\t", "\n", "\r", " \t\n\r \r\n", strings.Repeat(" ", api.MaxQuery)} {
		wantTokens(t, s)
	}
}

// Four bytes are blanks, and no other is.
func TestP11_1Blanks(t *testing.T) {
	for c := range 256 {
		s := "a" + string([]byte{byte(c)}) + "|"
		if strings.IndexByte(" \t\n\r", byte(c)) >= 0 {
			wantTokens(t, s, word("a", 0), sign("|", 2))
			wantTokens(t, s[1:], sign("|", 1))
			continue
		}
		if l, _, e := lex.Lex(s); e == api.OK && len(l) == 2 && l[0].S == "a" && l[1].At == 2 {
			t.Errorf("the byte %d is a blank", c)
		}
	}
	wantNone(t, "a\vb", 1, api.ErrLex)
	wantNone(t, "a\fb", 1, api.ErrLex)
	wantNone(t, "a\u00a0b", 1, api.ErrLex)
	wantNone(t, "a\x00b", 1, api.ErrLex)
}

func TestP11_1Words(t *testing.T) {
	for _, s := range []string{"a", "z", "a0", "a9", "a_", "a__", "z_9a", "true", "x_y_z", "and", strings.Repeat("a", api.MaxName), "a" + strings.Repeat("9", api.MaxName-1), "a" + strings.Repeat("_", api.MaxName-1)} {
		wantTokens(t, s, word(s, 0))
		wantTokens(t, "\n"+s+" "+s, word(s, 1), word(s, len(s)+2))
		wantTokens(t, s+"|"+s, word(s, 0), sign("|", len(s)), word(s, len(s)+1))
	}
	wantTokens(t, "a-5", word("a", 0), number(-5, 1))
	wantTokens(t, `a"b"c`, word("a", 0), text("b", 1), word("c", 4))
}

func TestP11_1NoWords(t *testing.T) {
	for _, s := range []string{"A", "Z", "_", "_a", "`", "{", "@", "[", "/", "ä", "é", "日", "\x80", "\xff", "À"} {
		wantNone(t, s, 0, api.ErrLex)
		wantNone(t, "  "+s, 2, api.ErrLex)
	}
	wantNone(t, "aB", 1, api.ErrLex)
	wantNone(t, "a.b", 1, api.ErrLex)
	wantNone(t, "aä", 1, api.ErrLex)
	wantNone(t, "a\xe1", 1, api.ErrLex)
}

// A word that is too long is not cut into two: its first byte begins no token.
func TestP11_1LongWords(t *testing.T) {
	for _, n := range []int{api.MaxName + 1, api.MaxName + 2, 2 * api.MaxName, 2040} {
		wantNone(t, strings.Repeat("a", n), 0, api.ErrLex)
		wantNone(t, "a| "+"b"+strings.Repeat("0", n-1)+" !", 3, api.ErrLex)
	}
}

func TestP11_1Numbers(t *testing.T) {
	for _, n := range []int{0, 1, -1, 5, -5, 9, 10, -10, 100, 12345, 1 << 40, 999999999999999999, 1000000000000000000, -1000000000000000000, math.MaxInt64 - 1, math.MaxInt64, math.MinInt64 + 1, math.MinInt64} {
		s := fmt.Sprint(n)
		wantTokens(t, s, number(n, 0))
		wantTokens(t, " "+s+"\t"+s, number(n, 1), number(n, len(s)+2))
		wantTokens(t, s+","+s+")", number(n, 0), sign(",", len(s)), number(n, len(s)+1), sign(")", 2*len(s)+1))
	}
	wantTokens(t, "5-3", number(5, 0), number(-3, 1))
	wantTokens(t, "0-3", number(0, 0), number(-3, 1))
	wantTokens(t, `5"a"`, number(5, 0), text("a", 1))
	wantTokens(t, "0<0", number(0, 0), sign("<", 1), number(0, 2))
}

func TestP11_1NoNumbers(t *testing.T) {
	for _, s := range []string{
		"00", "01", "007", "00000000000000000000", "-0", "-00", "-01", "-0 ", "-", "--1", "--", "- 1", "-a", `-"a"`, "-|", "+1",
		"5a", "5_", "5z9", "-5a", "-5_", "0a", "0_", "0x10", "1e3", "9223372036854775807a", "-9223372036854775808_",
		"9223372036854775808", "-9223372036854775809", "18446744073709551616", "18446744073709551621", "-18446744073709551615", "99999999999999999999", strings.Repeat("9", 2000), "-" + strings.Repeat("1", 2000),
	} {
		wantNone(t, s, 0, api.ErrLex)
		wantNone(t, "a = "+s, 4, api.ErrLex)
	}
	// The number is one, but what stands behind it begins no token.
	wantNone(t, "1.5", 1, api.ErrLex)
	wantNone(t, "5A", 1, api.ErrLex)
	wantNone(t, "5-", 1, api.ErrLex)
	wantNone(t, "5-0", 1, api.ErrLex)
	wantNone(t, "5-3a", 1, api.ErrLex)
	wantNone(t, "5-3-", 3, api.ErrLex)
	wantNone(t, "5ä", 1, api.ErrLex)
}

func TestP11_1Texts(t *testing.T) {
	for _, x := range []struct{ s, want string }{
		{`""`, ""}, {`"a"`, "a"}, {`" a "`, " a "}, {`"\""`, `"`}, {`"\\"`, `\`}, {`"\\\""`, `\"`}, {`"\"\\"`, `"\`}, {`"\\n"`, `\n`}, {`"a|b, 5 != A"`, "a|b, 5 != A"},
		{"\"\n\t\r\x00\x7f\"", "\n\t\r\x00\x7f"}, {"\"\xff\xfe\x80\"", "\xff\xfe\x80"}, {`"日本語 ä"`, "日本語 ä"}, {`"'` + "`" + `"`, "'`"},
		{`"` + strings.Repeat("x", 64) + `"`, strings.Repeat("x", 64)}, {`"` + strings.Repeat(`\"`, 64) + `"`, strings.Repeat(`"`, 64)}, {`"` + strings.Repeat(`\\`, 64) + `"`, strings.Repeat(`\`, 64)},
	} {
		wantTokens(t, x.s, text(x.want, 0))
		wantTokens(t, x.s+x.s+" 7", text(x.want, 0), text(x.want, len(x.s)), number(7, 2*len(x.s)+1))
		wantTokens(t, "  a"+x.s+"a", word("a", 2), text(x.want, 3), word("a", 3+len(x.s)))
	}
	for c := range 256 {
		if c != '"' && c != '\\' {
			one := string([]byte{byte(c)})
			wantTokens(t, `"`+one+`"`, text(one, 0))
		}
	}
}

func TestP11_1NoTexts(t *testing.T) {
	for _, s := range []string{
		`"`, `"a`, `"\"`, `"\\\"`, `"\`, `"a\`, `"\n"`, `"a\ b"`, `"\x"`, `"\'"`, `"a" `[:2], "\"\\\n\"", "\"\\\xff\"", `"\\\a"`,
		`"` + strings.Repeat("x", 65) + `"`, `"` + strings.Repeat("x", 65), `"` + strings.Repeat(`\"`, 65) + `"`, `"` + strings.Repeat("x", 64) + `\\"`, `"` + strings.Repeat("ä", 33) + `"`, `"` + strings.Repeat("x", 2000) + `"`,
	} {
		wantNone(t, s, 0, api.ErrLex)
		wantNone(t, "a = "+s, 4, api.ErrLex)
	}
	for c := range 256 {
		if c != '"' && c != '\\' {
			wantNone(t, ` "a\`+string([]byte{byte(c)})+`"`, 1, api.ErrLex)
		}
	}
	wantNone(t, `"a"b"`, 4, api.ErrLex)
}

func TestP11_1Signs(t *testing.T) {
	all := []string{"|", ",", "(", ")", ":", "=", "!=", "<", "<=", ">", ">="}
	for _, x := range all {
		wantTokens(t, x, sign(x, 0))
		wantTokens(t, "a "+x+"5", word("a", 0), sign(x, 2), number(5, 2+len(x)))
		for _, y := range all {
			wantTokens(t, x+" "+y, sign(x, 0), sign(y, len(x)+1))
			sameAsRule(t, x+y)
		}
	}
	wantTokens(t, "<==", sign("<=", 0), sign("=", 2))
	wantTokens(t, "=<", sign("=", 0), sign("<", 1))
	wantTokens(t, "=>=", sign("=", 0), sign(">=", 1))
	wantTokens(t, "==", sign("=", 0), sign("=", 1))
	wantTokens(t, "<>", sign("<", 0), sign(">", 1))
	wantTokens(t, "||", sign("|", 0), sign("|", 1))
	wantTokens(t, "!==!=", sign("!=", 0), sign("=", 2), sign("!=", 3))
}

func TestP11_1NoSigns(t *testing.T) {
	for _, s := range []string{"!", "! =", "!a", "!!=", "!<", ";", "&", "+", "*", "/", "'", "#", "$", "%", ".", "?", "@", "[", "]", "^", "{", "}", "~", "\\", "\x00", "\x7f"} {
		wantNone(t, s, 0, api.ErrLex)
		wantNone(t, "a\n"+s, 2, api.ErrLex)
		wantNone(t, "<"+s, 1, api.ErrLex)
	}
}

// Of several bytes that begin no token the first one is told.
func TestP11_1FirstPlace(t *testing.T) {
	wantNone(t, "a | ! 007", 4, api.ErrLex)
	wantNone(t, `a 007 ! "`, 2, api.ErrLex)
	wantNone(t, `"a" "b ! 007`, 4, api.ErrLex)
	wantNone(t, strings.Repeat(" ", api.MaxQuery-1)+"!", api.MaxQuery-1, api.ErrLex)
}

func TestP11_1Long(t *testing.T) {
	wantTokens(t, strings.Repeat(" ", api.MaxQuery-1)+"a", word("a", api.MaxQuery-1))
	for _, n := range []int{api.MaxQuery + 1, api.MaxQuery + 2, 2 * api.MaxQuery, 1 << 20} {
		for _, s := range []string{"a", " ", "!", "5", `"`, "\x00", "|"} {
			wantNone(t, strings.Repeat(s, n), 0, api.ErrLong)
		}
	}
	// How many tokens there are does not matter here.
	l, at, e := lex.Lex(strings.Repeat("|", api.MaxQuery))
	if len(l) != api.MaxQuery || at != 0 || e != api.OK {
		t.Errorf("%d tokens, %d, %d", len(l), at, e)
	}
}

func TestP11_1ByRuleTwoBytes(t *testing.T) {
	for a := range 256 {
		for b := range 256 {
			sameAsRule(t, string([]byte{byte(a), byte(b)}))
		}
	}
}

// pieces are such as tokens are made of, and a few that are not.
func pieces() []string {
	return []string{
		"a", "z", "keep", "b_1", "_", "0", "1", "9", "00", "-", "-5", "12", "922337203685477580", "7", "8", `"`, `""`, `"x"`, `\`, `\"`, `\\`, `"x\"y"`, "|", ",", "(", ")", ":", "=", "!", "<", ">", "!=", "<=", ">=",
		" ", " ", " ", " ", "\t", "\n", "\r", "A", ".", "\x00", "\xff", "ä", strings.Repeat("a", 12), strings.Repeat("x", 31),
	}
}

func TestP11_1ByRule(t *testing.T) {
	r := rand.New(rand.NewSource(11))
	l := pieces()
	for range 40000 {
		var b strings.Builder
		for range r.Intn(9) {
			b.WriteString(l[r.Intn(len(l))])
		}
		sameAsRule(t, b.String())
	}
}

func TestP11_2Quote(t *testing.T) {
	for _, x := range []struct{ s, want string }{
		{"", `""`}, {"a", `"a"`}, {`"`, `"\""`}, {`\`, `"\\"`}, {`\"`, `"\\\""`}, {`"\`, `"\"\\"`}, {`x"y`, `"x\"y"`}, {`\n`, `"\\n"`}, {"\n\t\r\x00", "\"\n\t\r\x00\""},
		{"\xff\xfe", "\"\xff\xfe\""}, {"日本語", `"日本語"`}, {"'`", "\"'`\""}, {`""`, `"\"\""`}, {" a ", `" a "`},
	} {
		if got := lex.Quote(x.s); got != x.want {
			t.Errorf("Quote(%q) is %q, not %q", x.s, got, x.want)
		}
	}
	for c := range 256 {
		one := string([]byte{byte(c)})
		want := `"` + one + `"`
		if c == '"' || c == '\\' {
			want = `"\` + one + `"`
		}
		if got := lex.Quote(one); got != want {
			t.Errorf("Quote(%q) is %q", one, got)
		}
	}
}

// Quote itself knows no bound.
func TestP11_2QuoteLong(t *testing.T) {
	for _, n := range []int{65, api.MaxQuery, 1 << 18} {
		if got := lex.Quote(strings.Repeat(`a"`, n)); got != `"`+strings.Repeat(`a\"`, n)+`"` {
			t.Errorf("Quote of %d bytes has %d", 2*n, len(got))
		}
	}
}

func TestP11_3QuoteThenLex(t *testing.T) {
	r := rand.New(rand.NewSource(3))
	for n := 0; n < 70 && !t.Failed(); n++ {
		for _, some := range []string{`"`, `\`, "a", `\"`, "\n"} {
			check11_3(t, strings.Repeat(some, n)[:n])
		}
		for range 50 {
			b := make([]byte, n)
			for k := range b {
				b[k] = byte(r.Intn(256))
				if r.Intn(3) == 0 {
					b[k] = `"\ a`[r.Intn(4)]
				}
			}
			check11_3(t, string(b))
		}
	}
}

func check11_3(t *testing.T, s string) {
	t.Helper()
	if len(s) > api.MaxText {
		wantNone(t, lex.Quote(s), 0, api.ErrLex)
		return
	}
	wantTokens(t, lex.Quote(s), text(s, 0))
	wantTokens(t, " a="+lex.Quote(s)+"|", word("a", 1), sign("=", 2), text(s, 3), sign("|", 3+len(lex.Quote(s))))
}

// Blanks between tokens, ahead of them and behind them change nothing but places.
func TestP11_3Blanks(t *testing.T) {
	parts := []string{"fetch", "load", "0", "-7", "|", "where", "(", "host", "!=", `"a \" b"`, ")", "<=", "=", "<", ">=", "x_1", `""`}
	r := rand.New(rand.NewSource(7))
	plain, _, _ := lex.Lex(strings.Join(parts, " "))
	for k := 0; k < 500 && !t.Failed(); k++ {
		var b strings.Builder
		var at []int
		for _, p := range parts {
			for range 1 + r.Intn(4) {
				b.WriteByte(" \t\n\r"[r.Intn(4)])
			}
			at = append(at, b.Len())
			b.WriteString(p)
		}
		want := slices.Clone(plain)
		for k := range want {
			want[k].At = at[k]
		}
		wantTokens(t, b.String()+strings.Repeat("\n", r.Intn(3)), want...)
	}
}

func TestR6SameEachTime(t *testing.T) {
	for _, s := range []string{`keep a,-5`, `a != "x\"y"`, `5a`, "", strings.Repeat("a", 3000)} {
		l, at, e := lex.Lex(s)
		lex.Lex("something else \"\\\"")
		again, atAgain, eAgain := lex.Lex(s)
		if !slices.Equal(l, again) || at != atAgain || e != eAgain || lex.Quote(s) != lex.Quote(s) {
			t.Errorf("Lex(%q) is %#v, then %#v", s, l, again)
		}
	}
}

func TestR7OwnMemory(t *testing.T) {
	s := `keep a <= "x"`
	l, _, _ := lex.Lex(s)
	for k := range l {
		l[k] = api.Token{Kind: 99, S: "spoilt"}
	}
	wantTokens(t, s, word("keep", 0), word("a", 5), sign("<=", 7), text("x", 10))
}

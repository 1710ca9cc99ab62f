package lex_test

import (
	"slices"
	"strings"
	"testing"

	"crosstree/api"
	"crosstree/lex"
)

// wantError checks that s is answered with an error, its offset, and nothing else.
func wantError(t *testing.T, s string, at int, e api.Errno) {
	t.Helper()
	l, gotAt, gotE := lex.Tokens(s)
	if len(l) != 0 || gotAt != at || gotE != e {
		t.Errorf("Tokens(%.60q) = %v, %d, %d, want none, %d, %d", s, l, gotAt, gotE, at, e)
	}
}

// wantTokens checks that s is read as the tokens want.
func wantTokens(t *testing.T, s string, want ...api.Token) {
	t.Helper()
	l, at, e := lex.Tokens(s)
	if !slices.Equal(l, want) || at != 0 || e != api.OK {
		t.Errorf("Tokens(%.60q) = %v, %d, %d, want %v, 0, 0", s, l, at, e, want)
	}
}

func name(at int, text string) api.Token {
	return api.Token{Kind: api.TokName, At: at, Text: text}
}

func keyword(at int, text string) api.Token {
	return api.Token{Kind: api.TokWord, At: at, Text: text}
}

func sign(at int, text string) api.Token {
	return api.Token{Kind: api.TokSign, At: at, Text: text}
}

func number(at int, text string, n int64) api.Token {
	return api.Token{Kind: api.TokNumber, At: at, Text: text, N: n}
}

const letters = "abcdefghijklmnopqrstuvwxyzABCDEFGHIJKLMNOPQRSTUVWXYZ_"

var allKeywords = strings.Fields("char int long void struct union if else while return break continue sizeof")

var allOperators = strings.Fields("-> == != <= >= << >> ( ) [ ] { } ; , . + - * / % & | ^ ! ~ < > =")

// P1.1: ordinary sources.

func TestTokensOfOrdinarySources(t *testing.T) {
	wantTokens(t, "")
	wantTokens(t, "a->b1+0x1F//n", name(0, "a"), sign(1, "->"), name(3, "b1"), sign(5, "+"), number(6, "0x1F", 31))
	wantTokens(t, "int *a[3];", keyword(0, "int"), sign(4, "*"), name(5, "a"), sign(6, "["), number(7, "3", 3), sign(8, "]"), sign(9, ";"))
	wantTokens(t, "x=(1+2)*-y;", name(0, "x"), sign(1, "="), sign(2, "("), number(3, "1", 1), sign(4, "+"), number(5, "2", 2),
		sign(6, ")"), sign(7, "*"), sign(8, "-"), name(9, "y"), sign(10, ";"))
	wantTokens(t, "return 'a'", keyword(0, "return"), number(7, "'a'", 97))
}

func TestKeywordIsAWholeWord(t *testing.T) {
	for _, k := range allKeywords {
		wantTokens(t, " "+k, keyword(1, k))
		for _, s := range []string{k + "s", k + "_", k + "1", "_" + k, k[1:], strings.ToUpper(k)} {
			if slices.Contains(allKeywords, s) {
				continue
			}
			wantTokens(t, s, name(0, s))
		}
	}
}

func TestNamesOfAllBytes(t *testing.T) {
	for _, c := range []byte(letters) {
		wantTokens(t, string(c), name(0, string(c)))
		wantTokens(t, "0 a"+string(c), number(0, "0", 0), name(2, "a"+string(c)))
	}
	wantTokens(t, "a0123456789", name(0, "a0123456789"))
	wantTokens(t, "_", name(0, "_"))
	wantTokens(t, "_0", name(0, "_0"))
	wantTokens(t, "a.b", name(0, "a"), sign(1, "."), name(2, "b"))
}

func TestOperatorsAreTheLongest(t *testing.T) {
	for _, o := range allOperators {
		wantTokens(t, o, sign(0, o))
		wantTokens(t, "a"+o+"1", name(0, "a"), sign(1, o), number(1+len(o), "1", 1))
	}
	wantTokens(t, "-->", sign(0, "-"), sign(1, "->"))
	wantTokens(t, "->>", sign(0, "->"), sign(2, ">"))
	wantTokens(t, ">>>=", sign(0, ">>"), sign(2, ">="))
	wantTokens(t, "<<=", sign(0, "<<"), sign(2, "="))
	wantTokens(t, "===", sign(0, "=="), sign(2, "="))
	wantTokens(t, "!==", sign(0, "!="), sign(2, "="))
	wantTokens(t, "&&", sign(0, "&"), sign(1, "&"))
	wantTokens(t, "++", sign(0, "+"), sign(1, "+"))
	wantTokens(t, "*/", sign(0, "*"), sign(1, "/"))
	wantTokens(t, "= =", sign(0, "="), sign(2, "="))
}

func TestEachByteAlone(t *testing.T) {
	for c := range 256 {
		s := string([]byte{byte(c)})
		switch {
		case strings.Contains(" \t\n\r", s):
			wantTokens(t, s)
			wantTokens(t, "a"+s+"b", name(0, "a"), name(2, "b"))
		case strings.Contains(letters, s):
			wantTokens(t, s, name(0, s))
		case '0' <= c && c <= '9':
			wantTokens(t, s, number(0, s, int64(c-'0')))
		case slices.Contains(allOperators, s):
			wantTokens(t, s, sign(0, s))
		default:
			wantError(t, s, 0, api.ErrSyntax)
			wantError(t, "a "+s, 2, api.ErrSyntax)
			wantError(t, "a"+s, 1, api.ErrSyntax)
		}
	}
}

// P1.1: numbers.

func TestNumbers(t *testing.T) {
	wantTokens(t, "0", number(0, "0", 0))
	wantTokens(t, "10", number(0, "10", 10))
	wantTokens(t, "1.5", number(0, "1", 1), sign(1, "."), number(2, "5", 5))
	wantTokens(t, "-1", sign(0, "-"), number(1, "1", 1))
	wantTokens(t, "0x0", number(0, "0x0", 0))
	wantTokens(t, "0x0123456789", number(0, "0x0123456789", 0x123456789))
	wantTokens(t, "0xabcdefABCDEF", number(0, "0xabcdefABCDEF", 0xabcdefabcdef))
	wantTokens(t, "0-0", number(0, "0", 0), sign(1, "-"), number(2, "0", 0))
	for _, s := range []string{"00", "08", "01", "0x", "0x ", "0xg", "0x_", "0X1", "0b1", "0_", "1_000", "1a", "12L", "1e5", "0x1g", "0x1G", "0xG", "0xz", "0x1_", "0x1x", "1\x30a"} {
		wantError(t, s, 0, api.ErrSyntax)
		wantError(t, "a  "+s, 3, api.ErrSyntax)
	}
}

func TestGreatestNumbers(t *testing.T) {
	const greatest = 1<<63 - 1
	wantTokens(t, "9223372036854775807", number(0, "9223372036854775807", greatest))
	wantTokens(t, "0x7fffffffffffffff", number(0, "0x7fffffffffffffff", greatest))
	wantTokens(t, "0x7FFFFFFFFFFFFFFF", number(0, "0x7FFFFFFFFFFFFFFF", greatest))
	for _, s := range []string{
		"9223372036854775808", "18446744073709551615", "18446744073709551616", "18446744073709551617",
		"0x8000000000000000", "0xffffffffffffffff", "10000000000000000000", "1" + strings.Repeat("0", 5000),
	} {
		wantError(t, s, 0, api.ErrSize)
		wantError(t, "- "+s, 2, api.ErrSize)
	}
}

func TestHexadecimalDigits(t *testing.T) {
	wantTokens(t, "0x0000000000000001", number(0, "0x0000000000000001", 1))
	wantTokens(t, "0x0000000000000001;", number(0, "0x0000000000000001", 1), sign(18, ";"))
	wantError(t, "0x00000000000000001", 0, api.ErrSyntax)
	wantError(t, "0x0000000000000000g", 0, api.ErrSyntax)
	wantError(t, "0x80000000000000000", 0, api.ErrSyntax)
}

func TestCharacterLiterals(t *testing.T) {
	for c := range 256 {
		s := string([]byte{'\'', byte(c), '\''})
		if c < 32 || c > 126 || c == 39 || c == 92 {
			wantError(t, s, 0, api.ErrSyntax)
		} else {
			wantTokens(t, s, number(0, s, int64(c)))
		}
	}
	wantTokens(t, "'a'b'0'1", number(0, "'a'", 97), name(3, "b"), number(4, "'0'", 48), number(7, "1", 1))
	wantTokens(t, "1'a'", number(0, "1", 1), number(1, "'a'", 97))
	wantTokens(t, "'/'/'*'", number(0, "'/'", 47), sign(3, "/"), number(4, "'*'", 42))
	for _, s := range []string{"'", "''", "'a", "'ab'", "'a ", "'''", "''''", `'\'`, `'\n'`, `'\''`, "'\u00e9'"} {
		wantError(t, s, 0, api.ErrSyntax)
		wantError(t, "x"+s, 1, api.ErrSyntax)
	}
	wantError(t, "'a''", 3, api.ErrSyntax)
}

// P1.1: white space and comments.

func TestComments(t *testing.T) {
	for _, s := range []string{"//", "// $ ' \" \xff", "//\n", "// /* \n", "/**/", "/* $ ' \" \xff \n */", "/***/", "/*/*/", "/* // */", "/**//**/", "//\r\n"} {
		wantTokens(t, s)
	}
	wantTokens(t, "a//b\nc", name(0, "a"), name(5, "c"))
	wantTokens(t, "a//b\rc", name(0, "a"))
	wantTokens(t, "a//b*/c\n*/", name(0, "a"), sign(8, "*"), sign(9, "/"))
	wantTokens(t, "a/*b*/c", name(0, "a"), name(6, "c"))
	wantTokens(t, "a/**/*/", name(0, "a"), sign(5, "*"), sign(6, "/"))
	wantTokens(t, "a/* /* */b", name(0, "a"), name(9, "b"))
	wantTokens(t, "a / / b", name(0, "a"), sign(2, "/"), sign(4, "/"), name(6, "b"))
	wantTokens(t, "a / * b", name(0, "a"), sign(2, "/"), sign(4, "*"), name(6, "b"))
	wantTokens(t, "1/**/1", number(0, "1", 1), number(5, "1", 1))
	wantTokens(t, "1//\n1", number(0, "1", 1), number(4, "1", 1))
}

func TestCommentsThatDoNotEnd(t *testing.T) {
	for _, s := range []string{"/*", "/*/", "/* *", "/* * /", "/* //\n", "/* $ 08"} {
		wantError(t, s, 0, api.ErrSyntax)
		wantError(t, "x "+s, 2, api.ErrSyntax)
		wantError(t, "x"+s, 1, api.ErrSyntax)
		wantError(t, "/**/"+s, 4, api.ErrSyntax)
	}
}

// P1.1: limits, and the order of the errors.

func TestBytesOfASource(t *testing.T) {
	full := strings.Repeat(";", api.MaxBytes)
	l, at, e := lex.Tokens(full)
	if len(l) != 20000 || at != 0 || e != api.OK || l[19999] != sign(19999, ";") {
		t.Fatalf("20000 bytes: %d tokens, %d, %d", len(l), at, e)
	}
	wantError(t, full+";", 0, api.ErrSize)
	wantTokens(t, strings.Repeat(" ", 19999)+"x", name(19999, "x"))
	wantError(t, strings.Repeat(" ", 20000)+"x", 0, api.ErrSize)
	wantError(t, strings.Repeat(" ", 20001), 0, api.ErrSize)
	wantError(t, strings.Repeat("$", 20001), 0, api.ErrSize)
	wantError(t, strings.Repeat(" ", 19999)+"$", 19999, api.ErrSyntax)
	wantError(t, "//"+strings.Repeat("\u00e9", 10000), 0, api.ErrSize)
	wantTokens(t, "//"+strings.Repeat("\u00e9", 9999))
	// The text of very many tokens is longer than a source may be.
	wantError(t, lex.Text(l), 0, api.ErrSize)
	wantError(t, lex.Text(l[:10001]), 0, api.ErrSize)
}

func TestBytesOfAName(t *testing.T) {
	longest := strings.Repeat("a", 23)
	for _, c := range []string{"a", "_", "0", "Z"} {
		wantTokens(t, longest+c, name(0, longest+c))
		wantTokens(t, longest+c+" b", name(0, longest+c), name(25, "b"))
		wantError(t, longest+c+"b", 0, api.ErrSize)
		wantError(t, "; "+longest+c+"0", 2, api.ErrSize)
	}
	wantError(t, "int"+strings.Repeat("_", 22), 0, api.ErrSize)
	wantError(t, strings.Repeat("x", 20000), 0, api.ErrSize)
}

func TestSyntaxStandsAheadOfSize(t *testing.T) {
	for _, s := range []string{"99999999999999999999x", "9223372036854775808_", "0x8000000000000000g", "0xffffffffffffffff0", "0" + strings.Repeat("9", 30)} {
		wantError(t, s, 0, api.ErrSyntax)
		wantError(t, "a\n"+s, 2, api.ErrSyntax)
	}
}

func TestFirstErrorFromTheLeft(t *testing.T) {
	long := strings.Repeat("n", 25)
	wantError(t, "a "+long+" $", 2, api.ErrSize)
	wantError(t, "a $ "+long, 2, api.ErrSyntax)
	wantError(t, "1a 9223372036854775808", 0, api.ErrSyntax)
	wantError(t, "9223372036854775808 1a", 0, api.ErrSize)
	wantError(t, "/* x */ 08 /*", 8, api.ErrSyntax)
	wantError(t, "// $\n ' $", 6, api.ErrSyntax)
	wantError(t, "ok /* 08", 3, api.ErrSyntax)
}

// P1.2.

func TestTextOfAnyTokens(t *testing.T) {
	for _, c := range []struct {
		l    []api.Token
		want string
	}{
		{nil, ""},
		{[]api.Token{}, ""},
		{[]api.Token{name(7, "a")}, "a"},
		{[]api.Token{name(0, "a"), sign(1, "->"), number(3, "0x1F", 31)}, "a -> 0x1F"},
		{[]api.Token{{}, {}, {}}, "  "},
		{[]api.Token{{Kind: -1, At: -5, Text: "// $\n", N: 9}, {Kind: 99, Text: "\xff"}}, "// $\n \xff"},
		{[]api.Token{{Text: "b", At: 9}, {Text: "a", At: 1}}, "b a"},
	} {
		kept := slices.Clone(c.l)
		if s := lex.Text(c.l); s != c.want {
			t.Errorf("Text(%v) = %q, want %q", c.l, s, c.want)
		}
		if !slices.Equal(c.l, kept) {
			t.Errorf("Text changed %v into %v", kept, c.l)
		}
	}
}

func TestWord(t *testing.T) {
	for _, k := range allKeywords {
		if !lex.Word(k) {
			t.Errorf("Word(%q) is false", k)
		}
		for _, s := range []string{k + " ", " " + k, k + "s", k[:len(k)-1], strings.ToUpper(k)} {
			if lex.Word(s) {
				t.Errorf("Word(%q) is true", s)
			}
		}
	}
	for _, s := range []string{"", " ", "a", "for", "do", "malloc", "free", "main", "unsigned", "short", "goto", "0", ";", "\xff", "int int"} {
		if lex.Word(s) {
			t.Errorf("Word(%q) is true", s)
		}
	}
}

func TestName(t *testing.T) {
	for _, s := range []string{"a", "Z", "_", "_1", "a1", "ints", "Int", "malloc", "for", strings.Repeat("x", 24), strings.Repeat("_", 24), "x" + strings.Repeat("9", 23)} {
		if !lex.Name(s) {
			t.Errorf("Name(%q) is false", s)
		}
	}
	for _, s := range append([]string{"", " ", "1", "1a", "9_", " a", "a ", "a b", "a-b", "a.b", "a\n", "a\x00", "$", "a$", "'a'", "\u00e9", "a\xff", "\xaa",
		strings.Repeat("x", 25), strings.Repeat("_", 25), "int" + strings.Repeat("x", 22)}, allKeywords...) {
		if lex.Name(s) {
			t.Errorf("Name(%q) is true", s)
		}
	}
	for c := range 256 {
		s := string([]byte{byte(c)})
		letter, digit := strings.Contains(letters, s), '0' <= c && c <= '9'
		if lex.Name(s) != letter || lex.Name("a"+s) != (letter || digit) {
			t.Errorf("Name of the byte %d", c)
		}
	}
}

// R3, R4: answers belong to the caller, and nothing is kept from call to call.
func TestNothingIsKept(t *testing.T) {
	const s = "int a = 1; $"
	first, _, _ := lex.Tokens(s[:10])
	for i := range first {
		first[i] = api.Token{Text: "gone"}
	}
	wantError(t, s, 11, api.ErrSyntax)
	wantTokens(t, s[:10], keyword(0, "int"), name(4, "a"), sign(6, "="), number(8, "1", 1), sign(9, ";"))
}

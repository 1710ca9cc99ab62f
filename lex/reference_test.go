package lex_test

import (
	"math/big"
	"math/rand/v2"
	"regexp"
	"slices"
	"strings"
	"testing"

	"crosstree/api"
	"crosstree/lex"
)

// A second lexer, written as the chapter's definitions, to hold the program's answers against.
var (
	refSkip   = regexp.MustCompile(`^(?:[ \t\n\r]|//[^\n]*|(?s:/\*.*?\*/))`)
	refName   = regexp.MustCompile(`^[A-Za-z_][A-Za-z_0-9]*`)
	refNumber = regexp.MustCompile(`^(?:0x[0-9a-fA-F]{1,16}|[1-9][0-9]*|0|'[\x20-\x26\x28-\x5b\x5d-\x7e]')`)
	refSign   = regexp.MustCompile(`^(?:->|==|!=|<=|>=|<<|>>|[][(){};,.+*/%&|^!~<>=-])`)
	refJoined = regexp.MustCompile(`^[0-9].*[A-Za-z_0-9]$`)
)

// refTokens is what P1.1 asks for.
func refTokens(s string) ([]api.Token, int, api.Errno) {
	if len(s) > 20000 {
		return nil, 0, api.ErrSize
	}
	var l []api.Token
	for at := 0; at < len(s); {
		rest := s[at:]
		if x := refSkip.FindString(rest); x != "" {
			at += len(x)
			continue
		}
		if strings.HasPrefix(rest, "/*") {
			return nil, at, api.ErrSyntax
		}
		t, e := refToken(rest)
		if e != api.OK {
			return nil, at, e
		}
		t.At = at
		l = append(l, t)
		at += len(t.Text)
	}
	return l, 0, api.OK
}

// refToken is the token that s begins with.
func refToken(s string) (api.Token, api.Errno) {
	if x := refName.FindString(s); x != "" {
		if len(x) > 24 {
			return api.Token{}, api.ErrSize
		}
		kind := api.TokName
		if slices.Contains(allKeywords, x) {
			kind = api.TokWord
		}
		return api.Token{Kind: kind, Text: x}, api.OK
	}
	if x := refNumber.FindString(s); x != "" {
		if len(x) < len(s) && refJoined.MatchString(s[:len(x)+1]) {
			return api.Token{}, api.ErrSyntax
		}
		n := refValue(x)
		if !n.IsInt64() {
			return api.Token{}, api.ErrSize
		}
		return api.Token{Kind: api.TokNumber, Text: x, N: n.Int64()}, api.OK
	}
	if x := refSign.FindString(s); x != "" {
		return api.Token{Kind: api.TokSign, Text: x}, api.OK
	}
	return api.Token{}, api.ErrSyntax
}

// refValue is the value of a number's text.
func refValue(x string) *big.Int {
	if x[0] == '\'' {
		return big.NewInt(int64(x[1]))
	}
	n, _ := new(big.Int).SetString(x, 0)
	return n
}

// holdAgainst checks P1.1, P1.2 and P1.3 for one source.
func holdAgainst(t *testing.T, s string) {
	t.Helper()
	l, at, e := lex.Tokens(s)
	wl, wat, we := refTokens(s)
	if !slices.Equal(l, wl) || at != wat || e != we {
		t.Fatalf("Tokens(%q) = %v, %d, %d, want %v, %d, %d", s, l, at, e, wl, wat, we)
	}
	if e == api.OK {
		checkPlaces(t, s, l)
		checkRoundTrip(t, l)
	}
}

// checkPlaces checks that tokens are ascending pieces of s that don't overlap, with nothing but white space and comments between.
func checkPlaces(t *testing.T, s string, l []api.Token) {
	t.Helper()
	end := 0
	for _, x := range append(slices.Clone(l), api.Token{At: len(s)}) {
		if x.At < end || x.At+len(x.Text) > len(s) || s[x.At:x.At+len(x.Text)] != x.Text {
			t.Fatalf("%q: the token %v lies wrong", s, x)
		}
		for gap := s[end:x.At]; gap != ""; {
			skip := refSkip.FindString(gap)
			if skip == "" {
				t.Fatalf("%q: %q stands between tokens", s, gap)
			}
			gap = gap[len(skip):]
		}
		end = x.At + len(x.Text)
	}
}

// checkRoundTrip checks that the text of tokens is read as these tokens, at the offsets that the text gives them.
func checkRoundTrip(t *testing.T, l []api.Token) {
	t.Helper()
	text := lex.Text(l)
	again, at, e := lex.Tokens(text)
	if len(again) != len(l) || at != 0 || e != api.OK {
		t.Fatalf("Tokens(%q) = %v, %d, %d, want %v", text, again, at, e, l)
	}
	off := 0
	for i, x := range l {
		x.At = off
		if again[i] != x {
			t.Fatalf("%q: token %d is %v, want %v", text, i, again[i], x)
		}
		off += len(x.Text) + 1
	}
	if lex.Text(again) != text {
		t.Fatalf("the text %q becomes %q", text, lex.Text(again))
	}
}

// TestAllShortSources holds all sources of up to 4 bytes of an alphabet against the second lexer.
func TestAllShortSources(t *testing.T) {
	const alphabet = "ax_09'/* \n->=<!$\\i"
	var grow func(s string)
	grow = func(s string) {
		holdAgainst(t, s)
		if len(s) == 4 {
			return
		}
		for _, c := range alphabet {
			grow(s + string(c))
		}
	}
	grow("")
}

// TestMixedSources holds sources of many pieces, glued and apart, against the second lexer.
func TestMixedSources(t *testing.T) {
	right := append(append([]string{
		" ", "\n", "\t", "\r", " /* x */ ", "/**/", " // y\n", "a", "b1", "_", "0 ", "7;", "0x1F ", "'z'", "' '", "'/'", "12345678901234567 ",
		strings.Repeat("q", 23) + " ", "9223372036854775807 ", "0x7fffffffffffffff ", "0x0000000000000000 ",
	}, allOperators...), allKeywords...)
	wrong := append(slices.Clone(right), "$", "'", "/*", "08", "1", "0x", "f", strings.Repeat("q", 24), "9223372036854775808", "0x8000000000000000", "\"", "\xff", "\x00")
	r := rand.New(rand.NewPCG(1, 2))
	for i := range 20000 {
		pieces := right
		if i%2 == 1 {
			pieces = wrong
		}
		var b strings.Builder
		for range r.IntN(30) {
			b.WriteString(pieces[r.IntN(len(pieces))])
		}
		holdAgainst(t, b.String())
	}
}

// TestRoundTripOfAllSorts reads and writes one source with every operator and keyword, glued where it may be.
func TestRoundTripOfAllSorts(t *testing.T) {
	s := strings.Join(allKeywords, "/**/") + strings.Join(allOperators, " ") + "'a''b'0x7fffffffffffffff;0//\n9223372036854775807\t" + strings.Repeat("n", 24) + "' '"
	holdAgainst(t, s)
	if l, _, _ := lex.Tokens(s); len(l) != len(allKeywords)+len(allOperators)+8 {
		t.Errorf("%d tokens", len(l))
	}
	// The greatest source whose text is no longer than itself.
	holdAgainst(t, strings.Repeat("; ", 10000))
}

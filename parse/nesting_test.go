package parse_test

import (
	"math/rand/v2"
	"slices"
	"strings"
	"testing"

	"crosstree/api"
	"crosstree/parse"
)

// What the grammar has next.
const (
	stmt = iota
	expr
	unary
	typename
)

// piece is a stmt, expr, unary or typename in which another one is next, after the text open.
// At the offset probe of open, if it isn't negative, others are parsed: with the innermost of them next, more others are around it than around the piece.
type piece struct {
	of, next    int
	open, close string
	probe, more int
}

var pieces = []piece{
	{stmt, stmt, "{", "}", -1, 0},
	{stmt, stmt, "{;", "}", 1, 1},
	{stmt, stmt, "{a;", ";}", 1, 3},
	{stmt, stmt, "if(a)", "", 3, 2},
	{stmt, stmt, "if(a)", "else;", 3, 2},
	{stmt, stmt, "if(a);else ", "", 3, 2},
	{stmt, stmt, "while(a)", "", 6, 2},
	{stmt, expr, "", ";", -1, 0},
	{stmt, expr, "if(", ");", -1, 0},
	{stmt, expr, "while(", "){}", -1, 0},
	{stmt, expr, "return ", ";", -1, 0},
	{stmt, expr, "int x=", ";", -1, 0},
	{stmt, typename, "int(*x[2])(", ");", -1, 0},
	{stmt, typename, "int(*x)(int,", ");", 8, 1},
	{expr, unary, "", "", -1, 0},
	{expr, expr, "a=", "", 0, 1},
	{expr, unary, "a+", "*b", 0, 1},
	{expr, unary, "a*b|", "", 0, 1},
	{unary, unary, "-", "", -1, 0},
	{unary, unary, "!", "", -1, 0},
	{unary, unary, "~", "", -1, 0},
	{unary, unary, "*", "", -1, 0},
	{unary, unary, "&", "", -1, 0},
	{unary, unary, "(char*)", "", 1, 1},
	{unary, expr, "(", ")", -1, 0},
	{unary, expr, "a[", "]", -1, 0},
	{unary, expr, "a(", ")", -1, 0},
	{unary, expr, "a(b,", ",c)", 2, 2},
	{unary, expr, "a[b](", ")[c]", 2, 2},
	{unary, expr, "a()(", ")", -1, 0},
	{unary, typename, "sizeof(", ")", -1, 0},
	{unary, typename, "(", ")a", -1, 0},
	{typename, typename, "int(*)(", ")", -1, 0},
	{typename, typename, "int(*)(int,", ",int)", 7, 1},
}

// starts are sources in which something is next while so many are being parsed.
var starts = []struct {
	open, close  string
	next, around int
}{
	{"void f(){", "}", stmt, 1},
	{"int x[3];struct s{int a;};long f(int p){", "}", stmt, 1},
	{"int(*g)(", ");", typename, 0},
	{"struct s{int(*g[1])(", ");};", typename, 0},
	{"void f(int p,int(*g)(", ")){}", typename, 0},
}

// leaves are what may stand for each that is next; at the first token, more others are around the innermost one.
var leaves = [][]struct {
	text string
	more int
}{
	stmt:     {{";", 0}, {"{}", 0}, {"break;", 0}, {"continue;", 0}, {"return;", 0}, {"int x;", 0}, {"struct s*x[2];", 0}, {"int(*x)();", 0}, {"a;", 2}, {"1;", 2}},
	expr:     {{"a", 1}, {"1", 1}, {"a()", 1}, {"a.b->c", 1}},
	unary:    {{"a", 0}, {"'a'", 0}, {"a()()", 0}, {"a->b", 0}},
	typename: {{"int", 0}, {"struct s**", 0}, {"void(*)()", 0}},
}

// suffixes may follow a token that is too deep, or stand in its place.
var suffixes = []string{"", "a", ";", "{", "}", ")", "]", "(", "int", "else", "while", "sizeof", "1", "-", ",", "=", "int x[0];"}

// nest makes a source of random pieces, about as deep as aim. If it is too deep, at is where.
func nest(r *rand.Rand, aim int) (s string, at int, deep bool) {
	start := starts[r.IntN(len(starts))]
	s, next, around := start.open, start.next, start.around
	closes := start.close
	for around < aim {
		if around == api.MaxDeep {
			return s, len(s), true
		}
		p := pieces[r.IntN(len(pieces))]
		if p.of != next {
			continue
		}
		if p.probe >= 0 && around+p.more >= api.MaxDeep {
			return s + p.open, len(s) + p.probe, true
		}
		s, closes = s+p.open, p.close+closes
		next, around = p.next, around+1
	}
	leaf := leaves[next][r.IntN(len(leaves[next]))]
	return s + leaf.text + closes, len(s), around+leaf.more >= api.MaxDeep
}

func TestNesting(t *testing.T) {
	r := rand.New(rand.NewPCG(7, 8))
	met := [2]int{}
	for range 12000 {
		s, at, deep := nest(r, 52+r.IntN(12))
		if !deep {
			wantOK(t, s)
			met[0]++
			continue
		}
		wantError(t, s, at, api.ErrDeep)
		met[1]++
	}
	if met[0] < 1000 || met[1] < 1000 {
		t.Errorf("%v sources", met)
	}
}

// TestTooDeepWhateverFollows checks that the token at which something is next that is too deep need not begin it: all but the exceptions are too deep.
func TestTooDeepWhateverFollows(t *testing.T) {
	blocks := func(n int) string { return "void f(){" + strings.Repeat("{", n) }
	for _, c := range []struct {
		s      string
		except []string
	}{
		{blocks(59), []string{"}"}},
		{blocks(58), []string{"}", ";", "{", "int", "int x[0];", "while"}},
		{blocks(57), []string{"}", ";", "{", "int", "int x[0];", "while"}},
		{blocks(58) + "while(", nil},
		{blocks(57) + "if(", nil},
		{blocks(58) + "int x=", nil},
		{blocks(57) + "int x=", nil},
		{blocks(58) + "return ", []string{";"}},
		{blocks(57) + "return ", []string{";"}},
		{blocks(58) + "int(*x)(", []string{")"}},
		{blocks(57) + "int(*x)(int,int(*)(", []string{")"}},
		{blocks(56) + "-", nil},
		{blocks(56) + "(", nil},
		{blocks(56) + "a[", nil},
		{blocks(56) + "a(", []string{")"}},
		{blocks(56) + "a=", nil},
		{blocks(56) + "sizeof(", nil},
		{blocks(54) + "(int)(int(*)(", []string{")"}},
		{"void f(){a=" + strings.Repeat("-", 56), nil},
		{"void f(){" + strings.Repeat("(", 29), nil},
		{"void f(){" + strings.Repeat("(", 28) + "-", nil},
		{"void f(){" + strings.Repeat("a=", 57), nil},
		{"int(*f)(" + strings.Repeat("int(*)(", 60), []string{")"}},
		{"int(*f)(int," + strings.Repeat("int(*)(int,", 59) + "int(*)(", []string{")"}},
	} {
		for _, x := range suffixes {
			s := c.s + " " + x
			if !slices.Contains(c.except, x) {
				wantError(t, s, len(c.s)+1, api.ErrDeep)
			} else if _, at, e := parse.Parse(s); e == api.ErrDeep && at == len(c.s)+1 {
				t.Errorf("Parse(%q) is too deep at %d", s, at)
			}
		}
	}
}

package parse_test

import (
	"math/rand/v2"
	"slices"
	"strings"
	"testing"

	"crosstree/api"
	"crosstree/lex"
	"crosstree/parse"
)

// The grammar of the chapter, read by a recognizer that knows nothing else: it tells the first token with which no unit can continue.
const grammarText = `
unit     = {record | global | func}
record   = ("struct" | "union") name "{" {type decl ";"} "}" ";"
global   = type decl ";"
func     = type stars name "(" [param {"," param}] ")" block
param    = type decl
type     = "void" | "char" | "int" | "long" | ("struct" | "union") name
stars    = {"*"}
decl     = stars (name {"[" number "]"} | "(" "*" name {"[" number "]"} ")" "(" [typename {"," typename}] ")")
typename = type stars [ "(" "*" ")" "(" [typename {"," typename}] ")" ]
stmt     = block | ";" | "if" "(" expr ")" stmt ["else" stmt] | "while" "(" expr ")" stmt
         | "return" [expr] ";" | "break" ";" | "continue" ";" | type decl ["=" expr] ";" | expr ";"
block    = "{" {stmt} "}"
expr     = bitor ["=" expr]
bitor    = bitxor {"|" bitxor}
bitxor   = bitand {"^" bitand}
bitand   = equal {"&" equal}
equal    = less {("==" | "!=") less}
less     = shift {("<" | "<=" | ">" | ">=") shift}
shift    = sum {("<<" | ">>") sum}
sum      = prod {("+" | "-") prod}
prod     = unary {("*" | "/" | "%") unary}
unary    = ("-" | "!" | "~" | "*" | "&") unary | "(" typename ")" unary | "sizeof" "(" typename ")" | post
post     = term {"[" expr "]" | "." name | "->" name | "(" [expr {"," expr}] ")"}
term     = name | number | "(" expr ")"
`

// part is one part of a rule's right side: a rule, if rule is not negative, otherwise a token: a text, or a kind.
type part struct {
	rule int
	text string
	kind int
}

// grammar has for each rule its right sides.
type grammar struct {
	rules [][][]part
	empty []bool // which rules may be nothing
	index map[string]int
}

// reading is the reading of the grammar's text.
type reading struct {
	g     *grammar
	words []string
}

func readGrammar() *grammar {
	g := &grammar{index: map[string]int{}}
	var rules []string
	for _, line := range strings.Split(strings.TrimSpace(grammarText), "\n") {
		if strings.HasPrefix(line, " ") {
			rules[len(rules)-1] += line
		} else {
			rules = append(rules, line)
		}
	}
	for i, rule := range rules {
		g.index[strings.Fields(rule)[0]] = i
	}
	g.rules = make([][][]part, len(rules))
	for i, rule := range rules {
		_, right, _ := strings.Cut(rule, "=")
		r := &reading{g, splitRule(right)}
		g.rules[i] = r.choices()
	}
	g.findEmpty()
	return g
}

// splitRule splits a right side into quoted texts, names and signs.
func splitRule(s string) []string {
	var l []string
	for s = strings.TrimSpace(s); s != ""; s = strings.TrimSpace(s) {
		n := 1
		switch {
		case s[0] == '"':
			n = strings.Index(s[1:], `"`) + 2
		case strings.Contains("abcdefghijklmnopqrstuvwxyz", s[:1]):
			n = len(s) - len(strings.TrimLeft(s, "abcdefghijklmnopqrstuvwxyz"))
		}
		l = append(l, s[:n])
		s = s[n:]
	}
	return l
}

// choices reads what bars separate, up to a closing sign.
func (r *reading) choices() [][]part {
	l := [][]part{nil}
	for len(r.words) > 0 {
		w := r.words[0]
		r.words = r.words[1:]
		last := &l[len(l)-1]
		switch w {
		case ")", "]", "}":
			return l
		case "|":
			l = append(l, nil)
		case "(":
			*last = append(*last, r.g.add(r.choices()))
		case "[":
			*last = append(*last, r.g.add(append(r.choices(), nil)))
		case "{":
			inner := r.g.add(r.choices())
			loop := r.g.add(nil)
			r.g.rules[loop.rule] = [][]part{nil, {loop, inner}}
			*last = append(*last, loop)
		case "name":
			*last = append(*last, part{rule: -1, kind: api.TokName})
		case "number":
			*last = append(*last, part{rule: -1, kind: api.TokNumber})
		default:
			if w[0] == '"' {
				*last = append(*last, part{rule: -1, text: strings.Trim(w, `"`)})
			} else {
				*last = append(*last, part{rule: r.g.index[w]})
			}
		}
	}
	return l
}

// add adds a rule without a name.
func (g *grammar) add(right [][]part) part {
	g.rules = append(g.rules, right)
	return part{rule: len(g.rules) - 1}
}

// findEmpty finds the rules that may be nothing.
func (g *grammar) findEmpty() {
	g.empty = make([]bool, len(g.rules))
	for again := true; again; {
		again = false
		for i, right := range g.rules {
			for _, l := range right {
				if !g.empty[i] && !slices.ContainsFunc(l, func(p part) bool { return p.rule < 0 || !g.empty[p.rule] }) {
					g.empty[i], again = true, true
				}
			}
		}
	}
}

// state is a right side of a rule, of which some parts have been met since a token.
type state struct{ rule, choice, met, since int }

// recognizer holds for each number of tokens the states after so many.
type recognizer struct {
	g    *grammar
	sets [][]state
}

func newRecognizer(g *grammar) *recognizer {
	r := &recognizer{g: g}
	var first []state
	for c := range g.rules[0] {
		first = append(first, state{0, c, 0, 0})
	}
	r.sets = [][]state{nil}
	r.sets[0] = r.close(first, 0)
	return r
}

// close adds to the states after n tokens what follows from them.
func (r *recognizer) close(l []state, n int) []state {
	seen := map[state]bool{}
	for _, s := range l {
		seen[s] = true
	}
	put := func(s state) {
		if !seen[s] {
			seen[s] = true
			l = append(l, s)
		}
	}
	for i := 0; i < len(l); i++ {
		s := l[i]
		right := r.g.rules[s.rule][s.choice]
		if s.met == len(right) {
			from := l
			if s.since < n {
				from = r.sets[s.since]
			}
			for _, u := range from {
				if up := r.g.rules[u.rule][u.choice]; u.met < len(up) && up[u.met].rule == s.rule {
					put(state{u.rule, u.choice, u.met + 1, u.since})
				}
			}
			continue
		}
		if p := right[s.met]; p.rule >= 0 {
			for c := range r.g.rules[p.rule] {
				put(state{p.rule, c, 0, n})
			}
			if r.g.empty[p.rule] {
				put(state{s.rule, s.choice, s.met + 1, s.since})
			}
		}
	}
	return l
}

// push goes on by a token, and reports whether a unit can continue with it. If none can, nothing is changed.
func (r *recognizer) push(t api.Token) bool {
	var l []state
	for _, s := range r.sets[len(r.sets)-1] {
		right := r.g.rules[s.rule][s.choice]
		if s.met == len(right) || right[s.met].rule >= 0 {
			continue
		}
		if p := right[s.met]; p.kind == t.Kind || p.kind == 0 && p.text == t.Text {
			l = append(l, state{s.rule, s.choice, s.met + 1, s.since})
		}
	}
	if l == nil {
		return false
	}
	r.sets = append(r.sets, nil)
	r.sets[len(r.sets)-1] = r.close(l, len(r.sets)-1)
	return true
}

// pop goes back by a token.
func (r *recognizer) pop() {
	r.sets = r.sets[:len(r.sets)-1]
}

// whole reports whether the tokens so far are a unit.
func (r *recognizer) whole() bool {
	return slices.ContainsFunc(r.sets[len(r.sets)-1], func(s state) bool {
		return s.rule == 0 && s.since == 0 && s.met == len(r.g.rules[0][s.choice])
	})
}

// tokensOf are the tokens of a source that has no errors of the lexer.
func tokensOf(t *testing.T, s string) []api.Token {
	t.Helper()
	l, _, e := lex.Tokens(s)
	if e != api.OK {
		t.Fatalf("%q has no tokens", s)
	}
	return l
}

// holdSyntax checks the error of s, where it must be a syntax error at the offset, or none if the offset is negative.
func holdSyntax(t *testing.T, s string, at int) {
	t.Helper()
	n, gotAt, e := parse.Parse(s)
	if at < 0 && (e != api.OK || gotAt != 0 || n.Kind != api.NodeUnit) {
		t.Fatalf("Parse(%q) = %d, %d, want a unit", s, gotAt, e)
	}
	if at >= 0 && (e != api.ErrSyntax || gotAt != at || n.Kind != 0) {
		t.Fatalf("Parse(%q) = %d, %d, want a syntax error at %d", s, gotAt, e, at)
	}
}

// TestAllShortContinuations follows every beginning of a unit, by up to some tokens of an alphabet, and holds each next token against the grammar.
func TestAllShortContinuations(t *testing.T) {
	g := readGrammar()
	for _, c := range []struct {
		start, alphabet string
		most            int
	}{
		{"", "int struct s ( ) * [ ] 3 { } ; , =", 8},
		{"struct s {", "char union s ( ) * [ 3 ] { } ;", 7},
		{"int f (", "int union s ( ) * [ 3 ] { , ;", 7},
		{"int (*a)(", "int struct s ( ) * [ , ;", 7},
		{"void f() {", "x int = ; { } ( ) if else while return break continue struct 1", 4},
		{"void f() { if (a)", "x ; { } if else while ( ) return int break continue", 6},
		{"void f() { int", "* a ( ) [ 2 ] = ; , {", 6},
		{"void f() { x =", "x 1 + - * ! & ( ) [ ] . -> , = == < ; sizeof int while }", 4},
		{"void f() { (", "int * ( ) , x sizeof 1 ; struct [ else", 5},
		{"void f() { sizeof (", "int * ( ) , x ; struct [ 1", 6},
	} {
		r := newRecognizer(g)
		for _, x := range tokensOf(t, c.start) {
			r.push(x)
		}
		alphabet := tokensOf(t, c.alphabet)
		var follow func(s string, left int)
		follow = func(s string, left int) {
			for _, x := range alphabet {
				next := s + " " + x.Text
				if !r.push(x) {
					holdSyntax(t, next, len(s)+1)
					holdSyntax(t, next+" ; } x", len(s)+1)
					continue
				}
				if r.whole() {
					holdSyntax(t, next, -1)
				} else {
					holdSyntax(t, next, len(next))
				}
				if left > 1 {
					follow(next, left-1)
				}
				r.pop()
			}
		}
		follow(c.start, c.most)
	}
}

// TestSpoiltSources holds sources in which a few tokens are taken out, put in or changed against the grammar.
func TestSpoiltSources(t *testing.T) {
	g := readGrammar()
	all := tokensOf(t, "char int long void struct union if else while return break continue sizeof -> == != <= >= << >> ( ) [ ] { } ; , . + - * / % & | ^ ! ~ < > = a b 1 2 ( ) * ; int a")
	r := rand.New(rand.NewPCG(3, 4))
	wrong := 0
	for range 6000 {
		l := tokensOf(t, newMaker(r).source(newMaker(r).unit(2)))
		for range r.IntN(3) {
			l = spoilTokens(r, l, all)
		}
		s := lex.Text(l)
		at := firstWrong(t, g, s)
		holdSyntax(t, s, at)
		if at >= 0 {
			wrong++
		}
	}
	if wrong < 1000 {
		t.Errorf("only %d sources are wrong", wrong)
	}
}

func spoilTokens(r *rand.Rand, l, all []api.Token) []api.Token {
	if len(l) == 0 {
		return l
	}
	i, x := r.IntN(len(l)), all[r.IntN(len(all))]
	switch r.IntN(4) {
	case 0:
		return slices.Delete(l, i, i+1)
	case 1:
		return slices.Insert(l, i, x)
	case 2:
		l[i] = l[r.IntN(len(l))]
	default:
		l[i] = x
	}
	return l
}

// firstWrong is the offset of the first token with which no unit can continue, -1 if s is a unit.
func firstWrong(t *testing.T, g *grammar, s string) int {
	t.Helper()
	r := newRecognizer(g)
	for _, x := range tokensOf(t, s) {
		if !r.push(x) {
			return x.At
		}
	}
	if r.whole() {
		return -1
	}
	return len(s)
}

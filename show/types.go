package show

import (
	"strconv"
	"strings"

	"crosstree/api"
)

// decl writes a type with a name in it.
func (p *printer) decl(t api.T, name string) {
	u := t
	for u.Kind == api.TArr {
		u = u.Of[0]
	}
	if !pointsToFunc(u) {
		p.plain(u)
		p.put(" ", name)
		p.sizes(t)
		return
	}
	f := u.Of[0]
	p.plain(f.Of[0])
	p.put(" (*", name)
	p.sizes(t)
	p.put(")")
	list(p, f.Of[1:], p.ask)
}

// ask writes a type without a name.
func (p *printer) ask(t api.T) {
	if pointsToFunc(t) {
		p.decl(t, "")
		return
	}
	p.plain(t)
}

// sizes writes the numbers of arrays, from the outermost one on.
func (p *printer) sizes(t api.T) {
	for ; t.Kind == api.TArr; t = t.Of[0] {
		p.put("[", strconv.Itoa(t.N), "]")
	}
}

// plain writes a type without arrays and functions.
func (p *printer) plain(t api.T) {
	stars := 0
	for ; t.Kind == api.TPtr; t = t.Of[0] {
		stars++
	}
	p.put(keyword(t.Kind))
	if t.Kind == api.TStruct || t.Kind == api.TUnion {
		p.put(" ", t.Name)
	}
	if stars > 0 {
		p.put(" ", strings.Repeat("*", stars))
	}
}

// keyword is the keyword of a kind of types that has one.
func keyword(kind int) string {
	switch kind {
	case api.TVoid:
		return "void"
	case api.TChar:
		return "char"
	case api.TInt:
		return "int"
	case api.TLong:
		return "long"
	case api.TStruct:
		return "struct"
	case api.TUnion:
		return "union"
	}
	return ""
}

func pointsToFunc(t api.T) bool {
	return t.Kind == api.TPtr && t.Of[0].Kind == api.TFunc
}

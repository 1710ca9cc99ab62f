package parse

import (
	"slices"

	"crosstree/api"
)

// unit parses the whole source.
func (p *parser) unit() api.Node {
	n := api.Node{Kind: api.NodeUnit}
	for p.token().Kind != 0 {
		n.Kids = append(n.Kids, p.item())
	}
	return n
}

// item parses a record, a global or a function.
func (p *parser) item() api.Node {
	t := p.baseType()
	if t.Name != "" && p.is("{") {
		return p.record(t)
	}
	t = p.stars(t)
	if p.token().Kind == api.TokName && p.second().Text == "(" {
		return p.function(t)
	}
	n := p.declared(api.NodeGlobal, t)
	p.want(";")
	return n
}

// record parses the rest of the record t.
func (p *parser) record(t api.T) api.Node {
	n := api.Node{Kind: api.NodeRecord, T: t}
	p.want("{")
	for !p.skip("}") {
		n.Kids = append(n.Kids, p.decl())
		p.want(";")
	}
	p.want(";")
	return n
}

// function parses the rest of a function, from its name on.
func (p *parser) function(result api.T) api.Node {
	n := api.Node{Kind: api.NodeFunc, Text: p.name()}
	n.Kids = list(p, p.decl)
	n.T = api.T{Kind: api.TFunc, Of: []api.T{result}}
	for _, k := range n.Kids {
		n.T.Of = append(n.T.Of, clone(k.T))
	}
	p.enter()
	n.Kids = append(n.Kids, p.block())
	p.leave()
	return n
}

// decl parses a type and what is declared with it: a field, a parameter or a variable.
func (p *parser) decl() api.Node {
	t := p.baseType()
	return p.declared(api.NodeDecl, p.stars(t))
}

// declared parses the rest of a declaration, after the stars: its node is of the kind.
func (p *parser) declared(kind int, t api.T) api.Node {
	if !p.skip("(") {
		name := p.name()
		return api.Node{Kind: kind, Text: name, T: arrays(p.sizes(), t)}
	}
	p.want("*")
	name, sizes := p.name(), p.sizes()
	p.want(")")
	return api.Node{Kind: kind, Text: name, T: arrays(sizes, p.pointerTo(t))}
}

// baseType parses a type without stars.
func (p *parser) baseType() api.T {
	kind, ok := p.types[p.token().Text]
	if !ok {
		p.fail(api.ErrSyntax)
	}
	p.next++
	t := api.T{Kind: kind}
	if kind == api.TStruct || kind == api.TUnion {
		t.Name = p.name()
	}
	return t
}

// stars parses stars: each one makes a pointer to what is so far.
func (p *parser) stars(t api.T) api.T {
	for p.skip("*") {
		t = pointer(t)
	}
	return t
}

// typename parses a type without a name.
func (p *parser) typename() api.T {
	p.enter()
	defer p.leave()
	t := p.baseType()
	t = p.stars(t)
	if !p.skip("(") {
		return t
	}
	p.want("*")
	p.want(")")
	return p.pointerTo(t)
}

// pointerTo parses a list of parameters' types: the type is a pointer to a function of these.
func (p *parser) pointerTo(result api.T) api.T {
	return pointer(api.T{Kind: api.TFunc, Of: append([]api.T{result}, list(p, p.typename)...)})
}

// sizes parses the numbers of arrays, each one in brackets.
func (p *parser) sizes() []int {
	var l []int
	for p.skip("[") {
		if t := p.token(); t.Kind == api.TokNumber && (t.N == 0 || t.N > api.MaxSize) {
			p.fail(api.ErrSize)
		}
		l = append(l, int(p.wantKind(api.TokNumber).N))
		p.want("]")
	}
	return l
}

// arrays makes t an array of each of the sizes, the last one innermost.
func arrays(sizes []int, t api.T) api.T {
	for _, n := range slices.Backward(sizes) {
		t = api.T{Kind: api.TArr, N: n, Of: []api.T{t}}
	}
	return t
}

func pointer(t api.T) api.T {
	return api.T{Kind: api.TPtr, Of: []api.T{t}}
}

// clone copies a type with all its parts: no two parts of a tree share memory.
func clone(t api.T) api.T {
	t.Of = slices.Clone(t.Of)
	for i, u := range t.Of {
		t.Of[i] = clone(u)
	}
	return t
}

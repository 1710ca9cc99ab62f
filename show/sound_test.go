package show_test

import (
	"testing"

	"crosstree/api"
	"crosstree/show"
)

// P1: every call ends without a panic, whatever it is given.

// ends calls everything on a tree and its types.
func ends(n api.Node) {
	show.Text(n)
	show.Ask(n.T)
	show.Decl(n.T, n.Text)
}

func TestMissingKids(t *testing.T) {
	leaf := nameNode("a")
	types := []api.T{{}, int4, {Kind: -1}, {Kind: 99, Of: []api.T{{}}}, pointer(api.T{}), array(-5, api.T{}), aStruct}
	for kind := api.TVoid; kind <= api.TFunc; kind++ {
		bare := api.T{Kind: kind}
		types = append(types, bare, pointer(bare), array(2, bare), array(2, pointer(bare)), pointerToFunc(bare), pointerToFunc(int4, bare), api.T{Kind: kind, Of: []api.T{bare, bare}})
	}
	for kind := -1; kind <= api.NodeUnit+1; kind++ {
		for _, x := range types {
			for _, kids := range [][]api.Node{nil, {}, {leaf}, {leaf, leaf}, {{}, {}, {}, {}}, {{Kind: kind, T: x}}, {{Kind: kind, Kids: []api.Node{leaf}}, leaf, leaf}} {
				for _, text := range []string{"", "+", "?"} {
					n := api.Node{Kind: kind, Text: text, N: -9, T: x, Kids: kids}
					ends(n)
					ends(api.Node{Kind: api.NodeUnit, Kids: []api.Node{n}})
					ends(inFunction(n, exprStmt(n), exprStmt(binary(n, "?", n))))
				}
			}
		}
	}
}

func TestNothing(t *testing.T) {
	wantText(t, api.Node{}, "")
	wantText(t, api.Node{Kind: api.NodeUnit}, "")
	wantText(t, api.Node{Kind: api.NodeBinary, Text: "+"}, "")
	for _, x := range []api.T{{}, {Kind: api.TPtr}, {Kind: -1}, {Kind: 99}} {
		if s := show.Ask(x); s != "" {
			t.Errorf("Ask of %v is %q", x, s)
		}
	}
	if s := show.Decl(api.T{Kind: api.TPtr}, "x"); s != "" {
		t.Errorf("Decl of a pointer to nothing is %q", s)
	}
}

// Memory that holds itself has no end.
func TestTreesThatHoldThemselves(t *testing.T) {
	for kind := -1; kind <= api.NodeUnit+1; kind++ {
		for size := 1; size <= 3; size++ {
			l := make([]api.Node, size)
			for i := range l {
				l[i] = api.Node{Kind: kind, Text: "+", T: intFromInt.Of[0], Kids: l}
			}
			ends(l[0])
			l[0].Kids = nil
			ends(l[size-1])
		}
	}
	for kind := -1; kind <= api.TFunc+1; kind++ {
		for size := 1; size <= 3; size++ {
			l := make([]api.T, size)
			for i := range l {
				l[i] = api.T{Kind: kind, N: 1, Of: l}
			}
			ends(api.Node{Kind: api.NodeDecl, T: l[0]})
			ends(api.Node{Kind: api.NodeDecl, T: pointer(l[0])})
		}
	}
}

// Shared memory may be small where the tree is great.
func TestTreesThatShare(t *testing.T) {
	n, x := nameNode("a"), int4
	for range 200 {
		n, x = binary(n, "+", n), pointerToFunc(int4, x, x)
		ends(n)
		ends(api.Node{Kind: api.NodeCast, T: x, Kids: []api.Node{n}})
	}
}

func TestVeryDeepTrees(t *testing.T) {
	n, b, x := nameNode("a"), api.Node{Kind: api.NodeBlock}, int4
	for range 60000 {
		n = api.Node{Kind: api.NodeUnary, Text: "-", Kids: []api.Node{n}}
		b = api.Node{Kind: api.NodeBlock, Kids: []api.Node{b}}
		x = pointerToFunc(x)
	}
	ends(n)
	ends(b)
	ends(inFunction(b, exprStmt(n)))
	ends(api.Node{Kind: api.NodeDecl, T: x})
}

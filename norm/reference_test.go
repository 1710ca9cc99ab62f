package norm_test

import (
	"math/rand/v2"
	"slices"
	"strconv"
	"testing"

	"crosstree/api"
	"crosstree/layout"
	"crosstree/norm"
)

// A second norm, written as the chapter's definitions stand there, which every function is held against.

func sizeOf(recs []api.Rec, x api.T) int {
	n, _, _ := layout.Size(recs, x)
	return n
}

// normal is the normal offset of off, which is from 0 to the size of x.
func normal(recs []api.Rec, x api.T, off int) int {
	n := sizeOf(recs, x)
	if off == n {
		return n
	}
	switch x.Kind {
	case api.TArr:
		return normal(recs, x.Of[0], off%sizeOf(recs, x.Of[0]))
	case api.TStruct:
		for _, r := range recs {
			if r.T.Kind != x.Kind || r.T.Name != x.Name {
				continue
			}
			for _, f := range r.Fields {
				if off >= f.Off && off < f.Off+sizeOf(recs, f.T) {
					return f.Off + normal(recs, f.T, off-f.Off)
				}
			}
			return off
		}
	}
	return off
}

// wantAsReference checks all functions, and P6.3, for a type and offsets around its own.
func wantAsReference(t *testing.T, recs []api.Rec, x api.T) {
	t.Helper()
	n, _, e := layout.Size(recs, x)
	if e != api.OK {
		wantWrong(t, recs, x, 0, e)
		wantWrong(t, recs, x, -1, e)
		return
	}
	var normals []int
	for off := range n + 1 {
		normals = append(normals, normal(recs, x, off))
	}
	wantSound(t, recs, x, normals)
	wantAll(t, recs, x, normals)
}

// wantSound is P6.3.
func wantSound(t *testing.T, recs []api.Rec, x api.T, normals []int) {
	t.Helper()
	for off, to := range normals {
		if to < 0 || to > off || normals[to] != to {
			t.Errorf("the normal offset of %d in %v is %d", off, x, to)
		}
	}
	n := len(normals) - 1
	if x.Kind != api.TArr || n == 0 {
		return
	}
	for off := range n - sizeOf(recs, x.Of[0]) {
		if other := off + sizeOf(recs, x.Of[0]); normals[off] != normals[other] {
			t.Errorf("the normal offsets of %d and %d in %v are %d and %d", off, other, x, normals[off], normals[other])
		}
	}
}

func wantPartition(t *testing.T, recs []api.Rec, x api.T) {
	t.Helper()
	var all []int
	l, _ := norm.Offs(recs, x)
	for _, off := range l {
		c, _ := norm.Class(recs, x, off)
		all = append(all, c...)
	}
	slices.Sort(all)
	if n, _, e := layout.Size(recs, x); e == api.OK && !slices.Equal(all, upTo(n)) {
		t.Errorf("the classes of %v have the offsets %v", x, all)
	}
}

// maker makes units of records, and types in them.
type maker struct {
	*rand.Rand
}

func (m maker) record() api.T {
	return api.T{Kind: api.TStruct + min(1, m.IntN(4)/3), Name: "r" + strconv.Itoa(m.IntN(8))}
}

func (m maker) typ() api.T {
	leaves := []api.T{char, char, int4, long, pointer(array(2, char)), m.record(), m.record(), m.record(), m.record(), m.record()}
	x := leaves[m.IntN(len(leaves))]
	for m.IntN(3) == 0 {
		x = array(1+m.IntN(4), x)
	}
	return x
}

// records adds one record after the other: those that are wrong are left out.
func (m maker) records() []api.Rec {
	unit := api.Node{Kind: api.NodeUnit}
	var recs []api.Rec
	for range 1 + m.IntN(14) {
		n := api.Node{Kind: api.NodeRecord, T: m.record()}
		for range m.IntN(7) {
			n.Kids = append(n.Kids, api.Node{Kind: api.NodeDecl, Text: "f" + strconv.Itoa(len(n.Kids)), T: m.typ()})
			more := append(slices.Clone(unit.Kids), n)
			if _, _, e := layout.Records(api.Node{Kind: api.NodeUnit, Kids: more}); e != api.OK {
				n.Kids = n.Kids[:len(n.Kids)-1]
			}
		}
		more := append(slices.Clone(unit.Kids), n)
		if l, _, e := layout.Records(api.Node{Kind: api.NodeUnit, Kids: more}); e == api.OK {
			unit.Kids, recs = more, l
		}
	}
	return recs
}

func TestRandomTypes(t *testing.T) {
	m := maker{rand.New(rand.NewPCG(6, 1))}
	greater, folded := 0, 0
	for range 1000 {
		recs := m.records()
		l := []api.T{m.typ(), m.typ()}
		if len(recs) > 0 {
			l = append(l, recs[len(recs)-1].T, array(2, recs[m.IntN(len(recs))].T))
		}
		for _, x := range l {
			wantAsReference(t, recs, x)
			if n := sizeOf(recs, x); n > 40 && n < 400 {
				greater++
				wantPartition(t, recs, x)
				if offs, _ := norm.Offs(recs, x); x.Kind == api.TStruct && len(offs) < n {
					folded++
				}
			}
		}
		if t.Failed() {
			t.Fatalf("with the records %v", recs)
		}
	}
	if greater < 500 || folded < 100 {
		t.Errorf("the types are too much alike: %d are greater, %d of these structs with arrays", greater, folded)
	}
}

// All structs of up to four fields of a few types, and arrays of them.
func TestAllSmallStructs(t *testing.T) {
	few := []api.T{char, int4, array(3, char), array(2, array(2, char)), structOf("e"), array(2, structOf("s")), array(2, unionOf("u"))}
	kids := func(l ...api.T) []api.Node {
		var to []api.Node
		for i, x := range l {
			to = append(to, api.Node{Kind: api.NodeDecl, Text: "f" + strconv.Itoa(i), T: x})
		}
		return to
	}
	unit := api.Node{Kind: api.NodeUnit, Kids: []api.Node{
		{Kind: api.NodeRecord, T: structOf("e")},
		{Kind: api.NodeRecord, T: structOf("s"), Kids: kids(char, array(2, char))},
		{Kind: api.NodeRecord, T: unionOf("u"), Kids: kids(char, array(2, char), structOf("s"))},
		{Kind: api.NodeRecord, T: structOf("all")},
	}}
	var fields []api.T
	var add func()
	add = func() {
		unit.Kids[3].Kids = kids(fields...)
		recs, _, e := layout.Records(unit)
		if e != api.OK {
			t.Fatal(e)
		}
		wantAsReference(t, recs, structOf("all"))
		wantAsReference(t, recs, array(2, structOf("all")))
		if len(fields) == 4 {
			return
		}
		for _, f := range few {
			fields = append(fields, f)
			add()
			fields = fields[:len(fields)-1]
		}
	}
	add()
}

package layout_test

import (
	"math/rand/v2"
	"slices"
	"testing"

	"crosstree/api"
	"crosstree/layout"
)

// R2, R3 and P1: whose memory it is, and that every call ends.

// deepCopy is x in memory of its own.
func deepCopy(x api.T) api.T {
	var l []api.T
	for _, p := range x.Of {
		l = append(l, deepCopy(p))
	}
	x.Of = l
	return x
}

func copyOfNode(n api.Node) api.Node {
	var l []api.Node
	for _, k := range n.Kids {
		l = append(l, copyOfNode(k))
	}
	n.T, n.Kids = deepCopy(n.T), l
	return n
}

func copyOfRecs(l []api.Rec) []api.Rec {
	l = slices.Clone(l)
	for i, r := range l {
		l[i].T, l[i].Fields = deepCopy(r.T), slices.Clone(r.Fields)
		for j, f := range r.Fields {
			l[i].Fields[j].T = deepCopy(f.T)
		}
	}
	return l
}

func sameNode(n, m api.Node) bool {
	return n.Kind == m.Kind && n.Text == m.Text && n.N == m.N && same(n.T, m.T) && slices.EqualFunc(n.Kids, m.Kids, sameNode)
}

// overwrite puts something else in all of a type's lists, and in the room behind them.
func overwrite(x api.T) {
	l := x.Of[:cap(x.Of)]
	for i := range l {
		overwrite(l[i])
		l[i] = api.T{Kind: 77, N: 77, Name: "gone"}
	}
}

func overwriteRecs(l []api.Rec) {
	for i, r := range l {
		overwrite(r.T)
		for j, f := range r.Fields {
			overwrite(f.T)
			r.Fields[j] = api.Field{Name: "gone", T: void, Off: 77}
		}
		l[i] = api.Rec{T: void, Size: 77}
	}
}

// richUnit has types with lists wherever a type may stand; some share them, and some have room behind them.
func richUnit() api.Node {
	room := []api.T{int4, long, char}
	p := pointer(function(void, pointer(aRec), pointer(pointer(char))))
	n := unit(
		recordNode(api.T{Kind: api.TStruct, Name: "s", N: 4, Of: []api.T{p, p}}, p, array(2, p), p, pointer(array(3, int4))),
		recordNode(api.T{Kind: 99, Of: room[:1]}, pointer(p), api.T{Kind: api.TPtr, Of: room[:1]}, api.T{Kind: api.TInt, Of: room[:0]}),
		recordNode(api.T{Kind: api.TUnion, Name: "s", Of: room[:0]}, api.T{Kind: api.TStruct, Name: "s"}, p),
	)
	return n
}

func TestRecordsAreTheCallers(t *testing.T) {
	n := richUnit()
	before := copyOfNode(n)
	l := wantRecords(t, n)
	want := copyOfRecs(l)
	overwriteRecs(l)
	if !sameNode(n, before) {
		t.Errorf("the unit is %v when its records are overwritten", n)
	}
	l = wantRecords(t, n)
	for _, k := range n.Kids {
		overwrite(k.T)
		for _, f := range k.Kids {
			overwrite(f.T)
		}
		clear(k.Kids)
	}
	clear(n.Kids)
	if !slices.EqualFunc(l, want, sameRec) {
		t.Errorf("the records are %v when the unit is overwritten", l)
	}
}

// listsOf are the first places of all lists of types, and of the fields.
func listsOf(l []api.Rec) (types []*api.T, fields []*api.Field) {
	var add func(x api.T)
	add = func(x api.T) {
		if cap(x.Of) > 0 {
			types = append(types, &x.Of[:1][0])
		}
		for _, p := range x.Of {
			add(p)
		}
	}
	for _, r := range l {
		add(r.T)
		if len(r.Fields) > 0 {
			fields = append(fields, &r.Fields[0])
		}
		for _, f := range r.Fields {
			add(f.T)
		}
	}
	return types, fields
}

func TestListsOfAnAnswerAreNotShared(t *testing.T) {
	types, fields := listsOf(wantRecords(t, richUnit()))
	for i := range types {
		if slices.Contains(types[:i], types[i]) {
			t.Error("two lists of types are one")
		}
	}
	for i := range fields {
		if slices.Contains(fields[:i], fields[i]) {
			t.Error("two lists of fields are one")
		}
	}
}

func TestFieldsAreTheCallers(t *testing.T) {
	recs := wantRecords(t, richUnit())
	for _, r := range recs {
		for _, f := range r.Fields {
			before := copyOfRecs(recs)
			got, _ := layout.Find(recs, r.T, f.Name)
			overwrite(got.T)
			if !slices.EqualFunc(recs, before, sameRec) {
				t.Fatalf("the records are overwritten through the field %v", f)
			}
		}
	}
	got, _ := layout.Find(recs, aRec, "a0")
	want := deepCopy(got.T)
	overwriteRecs(recs)
	if !same(got.T, want) {
		t.Errorf("a field is %v when its record is overwritten", got)
	}
}

func TestArgumentsAreLeftAlone(t *testing.T) {
	m := maker{rand.New(rand.NewPCG(5, 3)), 20}
	for range 3000 {
		n, x := m.unit(), m.typ(3)
		before, y := copyOfNode(n), deepCopy(x)
		l, _, _ := layout.Records(n)
		k := copyOfRecs(l)
		layout.Size(l, x)
		layout.Find(l, x, "f0")
		if !sameNode(n, before) || !same(x, y) || !slices.EqualFunc(l, k, sameRec) {
			t.Fatalf("%v, %v were changed to %v, %v, or the records", before, text(y), n, text(x))
		}
	}
}

// all calls everything, with a type wherever one may stand.
func all(x api.T) {
	recs := []api.Rec{{T: x, Fields: []api.Field{{Name: "a", T: x}}}, {T: aRec, Size: 4, Align: 4, Fields: []api.Field{{Name: "a", T: x}}}}
	layout.Size(recs, x)
	layout.Size(recs, array(3, x))
	layout.Find(recs, x, "a")
	layout.Find(recs, aRec, "a")
	layout.Records(unit(recordNode(x, int4), recordNode(aRec, x, x)))
	layout.Records(api.Node{T: x, Kids: []api.Node{recordNode(x)}})
}

// holdsItself is a type whose list holds it: types of the kinds, in one list.
func holdsItself(kinds ...int) api.T {
	l := make([]api.T, len(kinds))
	for i, k := range kinds {
		l[i] = api.T{Kind: k, N: 1, Of: l}
	}
	return l[0]
}

func TestTypesThatHoldThemselves(t *testing.T) {
	for _, kinds := range [][]int{{api.TPtr}, {api.TArr}, {api.TFunc}, {99}, {api.TFunc, api.TPtr}, {api.TArr, api.TArr}, {api.TStruct, api.TArr}} {
		x := holdsItself(kinds...)
		all(x)
		all(pointer(x))
		wantWrong(t, unit(recordNode(aRec, x)), 0, api.ErrType)
	}
	// Arrays that lead to themselves on a longer way, or only further on.
	for ways := 1; ways < 20; ways++ {
		last := array(1, int4)
		x := last
		for range ways {
			x = array(1, x)
		}
		last.Of[0] = x
		for range 20 {
			if n, a, e := layout.Size(nil, x); n != 0 || a != 0 || e != api.ErrType {
				t.Errorf("Size of an array that holds itself is %d, %d, %d", n, a, e)
			}
			x = array(1, x)
		}
	}
}

// Shared memory may be small where the types are great: this one has more parts than there is memory.
func TestTypesThatShare(t *testing.T) {
	x := pointer(int4)
	for range 28 {
		x = pointer(function(pointer(int4), x, x, x, x, x, x))
	}
	n := unit()
	for range 4 {
		k := recordNode(api.T{Kind: 99, Of: []api.T{x}})
		k.Kids = recordNode(aRec, slices.Repeat([]api.T{x}, 32)...).Kids
		n.Kids = append(n.Kids, k)
	}
	l := wantRecords(t, n)
	wantLaid(t, l[3], 8, 8, make([]int, 32)...)
	all(x)
}

func TestVeryDeepAndVeryWideTypes(t *testing.T) {
	x, y, z := int4, int4, int4
	for range 65000 {
		x, y, z = pointer(x), array(1, y), array(3, z)
	}
	all(x)
	all(y)
	all(function(slices.Repeat([]api.T{int4, pointer(char)}, 100000)...))
	if n, a, e := layout.Size(nil, y); n != 4 || a != 4 || e != api.OK {
		t.Errorf("Size of an int in very many arrays is %d, %d, %d", n, a, e)
	}
	if n, a, e := layout.Size(nil, z); n != 0 || a != 0 || e != api.ErrSize {
		t.Errorf("Size of very many ints is %d, %d, %d", n, a, e)
	}
}

func TestVeryLongLists(t *testing.T) {
	var l []api.Node
	for range 200000 {
		l = append(l, api.Node{Kind: api.NodeGlobal, Text: "g", T: void})
	}
	fields := recordNode(aRec, slices.Repeat([]api.T{int4}, 200000)...)
	wantRecords(t, unit(append(l, recordNode(aRec, int4))...))
	wantWrong(t, unit(append(l, fields)...), 0, api.ErrSize)
	recs := slices.Repeat(withRooms(4, 4), 200000)
	recs[len(recs)-1].T = other
	wantSize(t, recs, array(2, other), 8, 4, api.OK)
	wantNoField(t, recs, other, "a")
}

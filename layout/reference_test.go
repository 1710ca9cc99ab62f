package layout_test

import (
	"math/big"
	"math/rand/v2"
	"slices"
	"strconv"
	"strings"
	"testing"

	"crosstree/api"
	"crosstree/ctype"
	"crosstree/layout"
)

// A second layout, written as the chapter's definitions stand there, which every function is held against.

func same(t, u api.T) bool {
	return t.Kind == u.Kind && t.N == u.N && t.Name == u.Name && slices.EqualFunc(t.Of, u.Of, same)
}

func sameField(f, g api.Field) bool {
	return f.Name == g.Name && f.Off == g.Off && same(f.T, g.T)
}

func sameRec(r, s api.Rec) bool {
	return same(r.T, s.T) && r.Size == s.Size && r.Align == s.Align && slices.EqualFunc(r.Fields, s.Fields, sameField)
}

// text is a type for the eye, as far as one looks: types may have no end.
func text(t api.T) string {
	return firstLevels(t, 6)
}

func firstLevels(t api.T, levels int) string {
	if levels == 0 {
		return ".."
	}
	var b strings.Builder
	b.WriteString(strconv.Itoa(t.Kind) + " N " + strconv.Itoa(t.N) + " " + strconv.Quote(t.Name))
	for _, u := range t.Of {
		b.WriteString(" (" + firstLevels(u, levels-1) + ")")
	}
	return b.String()
}

func offsets(r api.Rec) []int {
	var l []int
	for _, f := range r.Fields {
		l = append(l, f.Off)
	}
	return l
}

// find is the index of the record of t, -1 if there is none.
func find(recs []api.Rec, t api.T) int {
	if t.Kind != api.TStruct && t.Kind != api.TUnion {
		return -1
	}
	return slices.IndexFunc(recs, func(r api.Rec) bool { return r.T.Kind == t.Kind && r.T.Name == t.Name })
}

// size is a type's size, however great, and its alignment.
func size(recs []api.Rec, t api.T) (*big.Int, int, api.Errno) {
	switch t.Kind {
	case api.TChar:
		return big.NewInt(1), 1, api.OK
	case api.TInt:
		return big.NewInt(4), 4, api.OK
	case api.TLong, api.TPtr:
		return big.NewInt(8), 8, api.OK
	case api.TStruct, api.TUnion:
		if i := find(recs, t); i >= 0 {
			return big.NewInt(int64(recs[i].Size)), recs[i].Align, api.OK
		}
		return nil, 0, api.ErrNone
	case api.TArr:
		if len(t.Of) != 1 || t.N < 1 {
			return nil, 0, api.ErrType
		}
		n, a, e := size(recs, t.Of[0])
		if e != api.OK {
			return nil, 0, e
		}
		n = new(big.Int).Mul(n, big.NewInt(int64(t.N)))
		if n.Cmp(big.NewInt(4096)) > 0 {
			return nil, 0, api.ErrSize
		}
		return n, a, api.OK
	}
	return nil, 0, api.ErrType
}

// above is the least multiple of align from n on.
func above(n, align int) int {
	for n%align != 0 {
		n++
	}
	return n
}

func laid(earlier []api.Rec, n api.Node) (api.Rec, api.Errno) {
	if len(earlier) >= 64 {
		return api.Rec{}, api.ErrSize
	}
	if find(earlier, n.T) >= 0 {
		return api.Rec{}, api.ErrType
	}
	r := api.Rec{T: n.T, Align: 1}
	ends := []int{0}
	for i, k := range n.Kids {
		if i+1 == 33 {
			return api.Rec{}, api.ErrSize
		}
		if slices.ContainsFunc(n.Kids[:i], func(l api.Node) bool { return l.Text == k.Text }) || !ctype.May(k.T) {
			return api.Rec{}, api.ErrType
		}
		n, a, e := size(earlier, k.T)
		if e != api.OK {
			return api.Rec{}, e
		}
		off := 0
		if r.T.Kind == api.TStruct {
			off = above(ends[i], a)
		}
		ends = append(ends, off+int(n.Int64()))
		r.Fields = append(r.Fields, api.Field{Name: k.Text, T: k.T, Off: off})
		r.Align = max(r.Align, a)
	}
	r.Size = above(slices.Max(ends), r.Align)
	if r.Size > 4096 {
		return api.Rec{}, api.ErrSize
	}
	return r, api.OK
}

func allLaid(n api.Node) ([]api.Rec, int, api.Errno) {
	var l []api.Rec
	for _, k := range n.Kids {
		if k.Kind == api.NodeRecord {
			r, e := laid(l, k)
			if e != api.OK {
				return nil, len(l), e
			}
			l = append(l, r)
		}
	}
	return l, 0, api.OK
}

func wantSizeAsReference(t *testing.T, recs []api.Rec, x api.T) {
	t.Helper()
	n, a, e := size(recs, x)
	if e != api.OK {
		wantNoSize(t, recs, x, e)
		return
	}
	wantSize(t, recs, x, int(n.Int64()), a, api.OK)
}

func wantFindAsReference(t *testing.T, recs []api.Rec, x api.T, name string) {
	t.Helper()
	if i := find(recs, x); i >= 0 {
		if j := slices.IndexFunc(recs[i].Fields, func(f api.Field) bool { return f.Name == name }); j >= 0 {
			wantField(t, recs, x, name, recs[i].Fields[j])
			return
		}
	}
	wantNoField(t, recs, x, name)
}

// maker makes units of records, and types in them.
type maker struct {
	*rand.Rand
	spoil int // one in so many is spoilt
}

func one[E any](m maker, l ...E) E {
	return l[m.IntN(len(l))]
}

func (m maker) name() string {
	return one(m, "s", "t", "u", "v", "w", "x")
}

func (m maker) typ(deep int) api.T {
	x := one(m, char, int4, long, pointer(void), api.T{Kind: api.TStruct, Name: m.name()}, api.T{Kind: api.TUnion, Name: m.name()})
	if m.IntN(m.spoil) == 0 {
		x = one(m, void, function(int4), api.T{Kind: m.IntN(12) - 1, N: m.IntN(3) - 1, Name: one(m, "", "s"), Of: []api.T{char}}, array(one(m, 0, 4096, 4097), char))
	}
	for deep > 0 && m.IntN(3) == 0 {
		deep--
		x = array(one(m, 1, 2, 3, 5, 8, 1+m.IntN(90)), x)
		if m.IntN(6) == 0 {
			x = pointer(x)
		}
	}
	return x
}

// field is a kid of a record: fields of types with sizes are the more frequent.
func (m maker) field(i int, earlier []api.Rec) api.Node {
	n := api.Node{Kind: api.NodeDecl, Text: "f" + strconv.Itoa(i), T: m.typ(3)}
	for range 4 {
		if _, _, e := size(earlier, n.T); e != api.OK && m.IntN(m.spoil) > 0 {
			n.T = m.typ(2)
		}
	}
	if m.IntN(m.spoil) == 0 {
		n.Text = "f" + strconv.Itoa(m.IntN(i+2))
	}
	return n
}

func (m maker) unit() api.Node {
	var l []api.Node
	for range m.IntN(9) {
		earlier, _, _ := allLaid(unit(l...))
		n := recordNode(api.T{Kind: one(m, api.TStruct, api.TStruct, api.TUnion), Name: m.name()})
		if find(earlier, n.T) >= 0 && m.IntN(m.spoil) > 0 {
			continue
		}
		for i := range one(m, m.IntN(4), m.IntN(10)) {
			n.Kids = append(n.Kids, m.field(i, earlier))
		}
		if m.IntN(m.spoil) == 0 {
			n.T = one(m, int4, pointer(int4), api.T{Kind: 99, Name: m.name()}, api.T{Kind: api.TUnion})
		}
		if m.IntN(m.spoil) == 0 {
			n.Kids = append(n.Kids, recordNode(n.T, slices.Repeat([]api.T{char}, 28+m.IntN(8))...).Kids...)
		}
		l = append(l, n)
		if m.IntN(4) == 0 {
			l = append(l, api.Node{Kind: one(m, api.NodeGlobal, api.NodeFunc, 0), Text: m.name(), T: m.typ(1)})
		}
	}
	return unit(l...)
}

func TestRandomUnits(t *testing.T) {
	m := maker{rand.New(rand.NewPCG(5, 1)), 100}
	outcomes := map[api.Errno]int{}
	for range 20000 {
		n := m.unit()
		l, at, e := layout.Records(n)
		want, i, err := allLaid(n)
		if !slices.EqualFunc(l, want, sameRec) || at != i || e != err {
			t.Fatalf("Records(%v) = %v, %d, %d, want %v, %d, %d", n, l, at, e, want, i, err)
		}
		outcomes[e]++
		for _, r := range l {
			wantSound(t, l, r)
		}
		for range 5 {
			x := m.typ(4)
			wantSizeAsReference(t, l, x)
			wantFindAsReference(t, l, x, "f"+strconv.Itoa(m.IntN(6)))
		}
	}
	if outcomes[api.OK] < 5000 || min(outcomes[api.ErrType], outcomes[api.ErrNone], outcomes[api.ErrSize]) < 200 {
		t.Errorf("the units are too much alike: %v", outcomes)
	}
}

// wantSound is P5.4 for a record.
func wantSound(t *testing.T, l []api.Rec, r api.Rec) {
	t.Helper()
	if r.Align < 1 || r.Size%r.Align != 0 {
		t.Errorf("the size %d of %s is no multiple of %d", r.Size, text(r.T), r.Align)
	}
	end := 0
	for _, f := range r.Fields {
		n, a, e := layout.Size(l, f.T)
		if e != api.OK || f.Off%a != 0 || f.Off < 0 || f.Off+n > r.Size || n%a != 0 {
			t.Errorf("the field %v of %s, of %d bytes at %d, is not as P5.4 says", f, text(r.T), n, f.Off)
		}
		if r.T.Kind == api.TStruct && f.Off < end {
			t.Errorf("the field %v of %s overlaps another", f, text(r.T))
		}
		end = f.Off + n
	}
	if n, a, e := layout.Size(l, r.T); r.T.Kind >= api.TStruct && r.T.Kind <= api.TUnion && (n != r.Size || a != r.Align || e != api.OK) {
		t.Errorf("Size of %s is %d, %d, %d", text(r.T), n, a, e)
	}
}

// Records that Records doesn't return may be any.
func TestRandomRecords(t *testing.T) {
	m := maker{rand.New(rand.NewPCG(5, 2)), 4}
	for range 20000 {
		var recs []api.Rec
		for range m.IntN(8) {
			r := api.Rec{T: m.typ(0), Size: one(m, m.IntN(9), m.IntN(5000), -m.IntN(5000), 1<<40), Align: m.IntN(20) - 5}
			for range m.IntN(4) {
				r.Fields = append(r.Fields, api.Field{Name: "f" + strconv.Itoa(m.IntN(4)), T: m.typ(2), Off: m.IntN(20) - 5})
			}
			recs = append(recs, r)
		}
		for range 5 {
			x := m.typ(3)
			wantSizeAsReference(t, recs, x)
			wantFindAsReference(t, recs, x, "f"+strconv.Itoa(m.IntN(4)))
		}
	}
}

// All structs and unions of up to five fields of a few types.
func TestAllSmallRecords(t *testing.T) {
	few := []api.T{char, int4, pointer(char), array(3, char), {Kind: api.TStruct, Name: "e"}, {Kind: api.TUnion, Name: "o"}}
	first := []api.Node{recordNode(few[4]), recordNode(few[5], array(2, int4), array(9, char))}
	var fields []api.T
	var add func()
	add = func() {
		for _, x := range []api.T{aRec, aUni} {
			n := unit(append(first, recordNode(x, fields...))...)
			l := wantRecords(t, n)
			want, _, _ := allLaid(n)
			if !slices.EqualFunc(l, want, sameRec) {
				t.Fatalf("the records are %v, want %v", l, want)
			}
			wantSound(t, l, l[2])
		}
		if len(fields) == 5 {
			return
		}
		for _, f := range few {
			fields = append(fields, f)
			add()
			fields = fields[:len(fields)-1]
		}
	}
	add()
}

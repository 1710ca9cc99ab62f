package site_test

import (
	"math/rand/v2"
	"slices"
	"strconv"
	"testing"

	"crosstree/api"
	"crosstree/layout"
	"crosstree/norm"
	"crosstree/site"
)

// A second table, written as the chapter's definitions stand there, which every function is held against.

type second struct {
	sites   []api.Site
	normals [][]int // of each site: of each of its offsets
	locs    []api.Loc
	ids     map[api.Loc]int
}

func (x second) loose(i int) bool {
	s := x.sites[i]
	return s.Kind == api.SiteHeap && (s.Size < 0 || s.Size > 64)
}

// last is the last offset of a site.
func (x second) last(i int) int {
	if x.loose(i) {
		return 4096
	}
	return x.sites[i].Size
}

// normal is the normal offset of an offset of a site.
func (x second) normal(recs []api.Rec, i, off int) int {
	s := x.sites[i]
	switch {
	case x.loose(i):
		return off % 8
	case s.Kind == api.SiteHeap || s.Kind == api.SiteFunc:
		return off
	}
	n, _ := norm.Norm(recs, s.T, off)
	return n
}

// secondTable is the second table, and its error.
func secondTable(recs []api.Rec, sites []api.Site) (second, api.Errno) {
	x := second{sites: sites, ids: map[api.Loc]int{}}
	for i, s := range sites {
		if s.Size > 4096 || s.Size < 0 && s.Kind != api.SiteHeap {
			return second{}, api.ErrArg
		}
		if s.Kind != api.SiteHeap && s.Kind != api.SiteFunc {
			n, _, e := layout.Size(recs, s.T)
			if e != api.OK {
				return second{}, e
			}
			if n != s.Size {
				return second{}, api.ErrArg
			}
		}
		var normals []int
		for off := range x.last(i) + 1 {
			normals = append(normals, x.normal(recs, i, off))
		}
		x.normals = append(x.normals, normals)
		for _, off := range slices.Compact(slices.Sorted(slices.Values(normals))) {
			at := api.Loc{Site: i, Off: off}
			x.ids[at] = len(x.locs)
			x.locs = append(x.locs, at)
		}
		if len(x.locs) > 3000 {
			return second{}, api.ErrSize
		}
	}
	return x, api.OK
}

func (x second) id(i, off int) int {
	return x.ids[api.Loc{Site: i, Off: x.normals[i][off]}]
}

// where marks the ids that lie k behind those of an id, for each k of some.
func (x second) where(id int, ks ...int) []int {
	at := x.locs[id]
	var l []int
	for off, normal := range x.normals[at.Site] {
		if normal != at.Off {
			continue
		}
		for _, k := range ks {
			if off+k >= 0 && off+k <= x.last(at.Site) {
				l = append(l, x.id(at.Site, off+k))
			}
		}
	}
	slices.Sort(l)
	return slices.Compact(l)
}

// looseIds are the ids of a loose site whose normal offset is that of id plus one of ks, modulo 8.
func (x second) looseIds(id int, ks ...int) []int {
	at := x.locs[id]
	var l []int
	for _, k := range ks {
		l = append(l, x.id(at.Site, ((at.Off+k)%8+8)%8))
	}
	slices.Sort(l)
	return slices.Compact(l)
}

func (x second) shift(id, k int) []int {
	if x.loose(x.locs[id].Site) {
		return x.looseIds(id, k)
	}
	return x.where(id, k)
}

func (x second) any(id, stride int) []int {
	at := x.locs[id]
	ks := []int{0}
	if x.loose(at.Site) {
		for i := range 8 {
			ks = append(ks, i*stride, -i*stride)
		}
		return x.looseIds(id, ks...)
	}
	if stride < 0 {
		stride = -stride
	}
	for k := stride; k > 0 && k <= x.last(at.Site); k += stride {
		ks = append(ks, k, -k)
	}
	return x.where(id, ks...)
}

// wantAsReference holds the table of a program against the second one: all ids, with the steps given, and P16.4.
func wantAsReference(t *testing.T, recs []api.Rec, sites []api.Site, ks ...int) second {
	t.Helper()
	x, e := secondTable(recs, sites)
	if e != api.OK {
		wantError(t, e, recs, sites...)
		return x
	}
	got := tableOf(t, recs, sites...)
	normals := make([][]int, len(sites))
	for _, at := range x.locs {
		normals[at.Site] = append(normals[at.Site], at.Off)
	}
	wantLocs(t, got, normals...)
	for i := range sites {
		for off := range x.last(i) + 1 {
			wantId(t, got, i, off, x.id(i, off), api.OK)
		}
		wantId(t, got, i, -1, 0, api.ErrRange)
		wantId(t, got, i, x.last(i)+1, 0, api.ErrRange)
	}
	for id := range x.locs {
		for _, k := range ks {
			wantShift(t, got, id, k, x.shift(id, k)...)
			wantAny(t, got, id, k, x.any(id, k)...)
		}
	}
	wantSound(t, got, sites, ks)
	return x
}

// wantSound is P16.4, without the second table.
func wantSound(t *testing.T, x *site.Table, sites []api.Site, ks []int) {
	t.Helper()
	for i := range sites {
		for off := 0; ; off += 1 + off/100 { // all, where they are few
			id, e := x.Id(i, off)
			if e != api.OK {
				break
			}
			for _, k := range ks {
				if to, e := x.Id(i, off+k); e == api.OK && !slices.Contains(x.Shift(id, k), to) {
					t.Errorf("Shift of %d of %d by %d has no %d", off, i, k, off+k)
				}
				to, e := x.Id(i, off-3*k)
				if e == api.OK && !slices.Contains(x.Any(id, k), to) {
					t.Errorf("Any of %d of %d by %d has no %d", off, i, k, off-3*k)
				}
			}
		}
	}
}

// maker makes units of records, types in them, and sites of these.
type maker struct {
	*rand.Rand
}

func (m maker) record() api.T {
	return api.T{Kind: api.TStruct + min(1, m.IntN(4)/3), Name: "r" + strconv.Itoa(m.IntN(6))}
}

func (m maker) typ() api.T {
	leaves := []api.T{char, char, int4, long, pointer(array(2, char)), m.record(), m.record(), m.record(), m.record()}
	x := leaves[m.IntN(len(leaves))]
	for m.IntN(2) == 0 {
		x = array(1+m.IntN(4), x)
	}
	return x
}

// records adds one record after the other: those that are wrong are left out, and those that are too great for many tests.
func (m maker) records() []api.Rec {
	unit := api.Node{Kind: api.NodeUnit}
	var recs []api.Rec
	for range 1 + m.IntN(8) {
		n := api.Node{Kind: api.NodeRecord, T: m.record()}
		for i := range m.IntN(5) {
			n.Kids = append(n.Kids, api.Node{Kind: api.NodeDecl, Text: "f" + strconv.Itoa(i), T: m.typ()})
		}
		more := append(slices.Clone(unit.Kids), n)
		l, _, e := layout.Records(api.Node{Kind: api.NodeUnit, Kids: more})
		if e == api.OK && l[len(l)-1].Size < 150 {
			unit.Kids, recs = more, l
		}
	}
	return recs
}

// site makes one that is right mostly.
func (m maker) site(recs []api.Rec) api.Site {
	s := api.Site{Kind: 1 + m.IntN(4), Func: -1, T: m.typ()}
	size, _, e := layout.Size(recs, s.T)
	for tries := 0; tries < 9 && (e != api.OK || size > 200); tries++ {
		s.T = m.typ()
		size, _, e = layout.Size(recs, s.T)
	}
	s.Size = size
	switch {
	case m.IntN(40) == 0:
		s.Size += m.IntN(4) - 2
	case m.IntN(40) == 0:
		s.Size = -1
	case m.IntN(30) == 0:
		s.Kind = m.IntN(7) - 1
	case s.Kind == api.SiteFunc && m.IntN(4) > 0:
		s.Size = 0
	case s.Kind == api.SiteHeap:
		s.Size = []int{m.IntN(20) - 1, 60 + m.IntN(9), m.IntN(4098)}[min(2, m.IntN(5))]
	}
	return s
}

// steps makes some numbers for Shift and Any, mostly small ones.
func (m maker) steps() []int {
	l := []int{0, 1, -1}
	for _, most := range []int{5, 9, 17, 30, 80, 250, 8193} {
		l = append(l, m.IntN(most), -m.IntN(most))
	}
	return l
}

func TestRandomPrograms(t *testing.T) {
	tables, folded, errors := 0, 0, 0
	for k := range 400 {
		m := maker{rand.New(rand.NewPCG(16, uint64(k)))}
		recs := m.records()
		var sites []api.Site
		for range m.IntN(6) {
			sites = append(sites, m.site(recs))
		}
		x := wantAsReference(t, recs, sites, m.steps()...)
		if t.Failed() {
			t.Fatalf("program %d: %v with the records %v", k, sites, recs)
		}
		bytes := 0
		for i := range x.sites {
			if !x.loose(i) {
				bytes += x.last(i) + 1
			}
		}
		switch {
		case len(x.sites) != len(sites):
			errors++
		case len(sites) > 1:
			tables++
			if len(x.locs) < bytes {
				folded++
			}
		}
	}
	if tables < 150 || folded < 80 || errors < 15 {
		t.Errorf("the programs are too much alike: %d tables, %d with arrays, %d errors", tables, folded, errors)
	}
}

// All steps there may be, for each id of some sites.
func TestAllSteps(t *testing.T) {
	recs := records(t, "struct i { char a; char b[2]; }; struct n { struct i a[2]; char b; struct i c; }; union u { struct n a; char b[3]; };")
	for _, sites := range [][]api.Site{
		{code(0), code(2), heap(5), heap(-1), heap(0), global(9, array(3, structOf("i")))},
		{local(20, array(2, structOf("n"))), global(10, unionOf("u")), global(5, array(5, char)), global(1, char)},
	} {
		x, e := secondTable(recs, sites)
		if e != api.OK {
			t.Fatal(e)
		}
		got := tableOf(t, recs, sites...)
		for id := range x.locs {
			for k := -8194; k <= 8194; k++ {
				switch {
				case k < -8192 || k > 8192:
					wantShift(t, got, id, k)
					wantAny(t, got, id, k)
				case k > -25 && k < 25 || x.loose(x.locs[id].Site):
					wantShift(t, got, id, k, x.shift(id, k)...)
					wantAny(t, got, id, k, x.any(id, k)...)
				default:
					wantShift(t, got, id, k)
					wantAny(t, got, id, k, id)
				}
			}
		}
	}
}

// All structs of up to three fields of a few types, and arrays of them.
func TestAllSmallStructs(t *testing.T) {
	few := []api.T{char, int4, array(3, char), array(2, array(2, char)), structOf("s"), array(2, structOf("s")), array(2, unionOf("u"))}
	kids := func(l ...api.T) []api.Node {
		var to []api.Node
		for i, x := range l {
			to = append(to, api.Node{Kind: api.NodeDecl, Text: "f" + strconv.Itoa(i), T: x})
		}
		return to
	}
	unit := api.Node{Kind: api.NodeUnit, Kids: []api.Node{
		{Kind: api.NodeRecord, T: structOf("s"), Kids: kids(char, array(2, char))},
		{Kind: api.NodeRecord, T: unionOf("u"), Kids: kids(char, array(2, char), structOf("s"))},
		{Kind: api.NodeRecord, T: structOf("all")},
	}}
	var fields []api.T
	var add func()
	add = func() {
		unit.Kids[2].Kids = kids(fields...)
		recs, _, e := layout.Records(unit)
		if e != api.OK {
			t.Fatal(e)
		}
		n := recs[2].Size
		wantAsReference(t, recs, []api.Site{global(n, structOf("all")), local(2*n, array(2, structOf("all")))}, -7, -1, 2, 3, 4, 9)
		if len(fields) == 3 {
			return
		}
		for _, f := range few {
			fields = append(fields, f)
			add()
			fields = fields[:len(fields)-1]
		}
	}
	add()
}

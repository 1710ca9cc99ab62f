package layout

import (
	"crosstree/api"
	"crosstree/ctype"
)

// record lays out one record; earlier are those before it. Its types are those of n still, in the same memory.
func record(earlier []api.Rec, n api.Node) (api.Rec, api.Errno) {
	if len(earlier) == api.MaxTypes {
		return api.Rec{}, api.ErrSize
	}
	if _, ok := recordOf(earlier, n.T); ok {
		return api.Rec{}, api.ErrType
	}
	r, e := api.Rec{T: n.T, Align: 1}, api.OK
fields:
	for _, k := range n.Kids {
		if len(r.Fields) == api.MaxFields {
			e = api.ErrSize
			break fields
		}
		for _, f := range r.Fields {
			if f.Name == k.Text {
				e = api.ErrType
				break fields
			}
		}
		size, align, wrong := sizeOfField(earlier, k.T)
		if wrong != api.OK {
			e = wrong
			break fields
		}
		add(&r, k, size, align)
	}
	if e != api.OK {
		return api.Rec{}, e
	}
	r.Size = roundedUp(r.Size, r.Align)
	if r.Size > api.MaxSize {
		return api.Rec{}, api.ErrSize
	}
	return r, api.OK
}

// sizeOfField returns the size and the alignment of a field's type.
func sizeOfField(earlier []api.Rec, t api.T) (int, int, api.Errno) {
	if !ctype.May(t) {
		return 0, 0, api.ErrType
	}
	return Size(earlier, t)
}

// add adds a field. While fields are added, the size of r is the greatest end of a field, which in a struct is the end of the last one.
func add(r *api.Rec, k api.Node, size, align int) {
	off := 0
	if r.T.Kind == api.TStruct {
		off = roundedUp(r.Size, align)
	}
	r.Fields = append(r.Fields, api.Field{Name: k.Text, T: k.T, Off: off})
	r.Size = max(r.Size, off+size)
	r.Align = max(r.Align, align)
}

func roundedUp(n, align int) int {
	return (n + align - 1) / align * align
}

// renew gives all types of the records memory of their own.
// It does so at one time, since fresh bounds the memory of one list of types, however much they share.
func renew(l []api.Rec) {
	var places []*api.T
	for i := range l {
		places = append(places, &l[i].T)
		for j := range l[i].Fields {
			places = append(places, &l[i].Fields[j].T)
		}
	}
	var types []api.T
	for _, p := range places {
		types = append(types, *p)
	}
	for i, t := range fresh(types) {
		*places[i] = t
	}
}

// fresh returns the types in memory of their own.
func fresh(l []api.T) []api.T {
	// A pointer's Decay is the pointer again, with all of its parts in new memory.
	return ctype.Decay(api.T{Kind: api.TPtr, Of: l}).Of
}

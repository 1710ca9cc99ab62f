package site

import (
	"iter"
	"slices"

	"crosstree/api"
	"crosstree/norm"
)

const (
	maxHeap = 64 // bytes of a SiteHeap that isn't loose
	ring    = 8  // a loose site has so many normal offsets
)

// An extent is the offsets of a site, from 0 to last, with their normal offsets.
type extent struct {
	last  int
	loose bool
	round []int // the normal offsets, which come over and over up to last; empty: each offset is its own
}

// has tells whether there is such an offset.
func (x extent) has(off int) bool {
	return off >= 0 && off <= x.last
}

// normal returns the normal offset of one of the offsets.
func (x extent) normal(off int) int {
	if len(x.round) == 0 || off == x.last && !x.loose {
		return off
	}
	return x.round[off%len(x.round)]
}

// offsets enumerates the offsets, each with its normal offset.
func (x extent) offsets() iter.Seq2[int, int] {
	return func(yield func(int, int) bool) {
		for off := 0; x.has(off); off++ {
			if !yield(off, x.normal(off)) {
				return
			}
		}
	}
}

// moved enumerates the normal offsets k bytes behind some offsets with one normal offset, where there are offsets.
// A loose site's come to one, without an end, so that the first of them tells it.
func (x extent) moved(offs []int, k int) iter.Seq[int] {
	return func(yield func(int) bool) {
		if x.loose {
			yield(((offs[0]+k)%ring + ring) % ring)
			return
		}
		for _, off := range offs {
			if x.has(off+k) && !yield(x.normal(off+k)) {
				return
			}
		}
	}
}

// An element tells all types that aren't arrays apart, as far as their normal offsets differ.
type element struct {
	kind int
	name string
}

// measure finds the extents of sites. It keeps the normal offsets in elements, since many sites have the same.
type measure struct {
	recs   []api.Rec
	rounds map[element][]int
}

// extent returns the extent of a site, or the error that New has for it.
func (m measure) extent(s api.Site) (extent, api.Errno) {
	heap := s.Kind == api.SiteHeap
	switch {
	case s.Size > api.MaxSize, s.Size < 0 && !heap:
		return extent{}, api.ErrArg
	case heap && (s.Size < 0 || s.Size > maxHeap):
		return extent{last: api.MaxSize, loose: true, round: []int{0, 1, 2, 3, 4, 5, 6, 7}}, api.OK
	case heap, s.Kind == api.SiteFunc:
		return extent{last: s.Size}, api.OK
	}
	if e := m.sizeError(s); e != api.OK {
		return extent{}, e
	}
	return extent{last: s.Size, round: m.round(s.T)}, api.OK
}

// sizeError returns the error of layout.Size of a site's type, or ErrArg if the site has another size.
func (m measure) sizeError(s api.Site) api.Errno {
	_, e := norm.Norm(m.recs, s.T, s.Size)
	switch {
	case e == api.ErrRange:
		return api.ErrArg
	case e == api.ErrSize && s.T.Kind != api.TArr:
		// Only arrays have this error of layout.Size: it is norm's, for a record greater than those that layout.Records returns.
		return api.ErrArg
	case e != api.OK:
		return e
	}
	if _, e := norm.Norm(m.recs, s.T, s.Size+1); e == api.OK {
		return api.ErrArg
	}
	return api.OK
}

// round returns the normal offsets in the innermost elements of a type that has a size, without their end.
// Arrays repeat them, so that they do for all arrays around the elements.
func (m measure) round(t api.T) []int {
	for t.Kind == api.TArr {
		t = t.Of[0]
	}
	key := element{t.Kind, t.Name}
	l, ok := m.rounds[key]
	if !ok {
		l = slices.Collect(m.normals(t))
		l = l[:max(0, len(l)-1)]
		m.rounds[key] = l
	}
	return l
}

// normals enumerates the normal offsets of all offsets in a type, up to its end.
func (m measure) normals(t api.T) iter.Seq[int] {
	return func(yield func(int) bool) {
		for off := 0; ; off++ {
			normal, e := norm.Norm(m.recs, t, off)
			if e != api.OK || !yield(normal) {
				return
			}
		}
	}
}

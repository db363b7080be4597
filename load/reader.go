package load

import (
	"hayloft/api"
	"hayloft/audit"
	"hayloft/chain"
	"hayloft/disk"
	"hayloft/frame"
	"hayloft/image"
	"hayloft/manifest"
	"hayloft/page"
	"hayloft/root"
	"hayloft/span"
)

// reader reads a checkpoint.
type reader struct {
	Found // so far
	disk  *disk.Disk
	top   root.Root
	met   map[int]struct{} // the sectors of all chains that were read
}

// read is the checkpoint of a manifest, at a base, or what is met first that goes against it.
func read(d *disk.Disk, mark manifest.Found, base int) (Found, error) {
	r := &reader{disk: d, met: map[int]struct{}{}}
	r.View.Base = base
	r.Tree.Seq, r.Tree.Slot = mark.Manifest.Seq, mark.Slot
	first := mark.Manifest.First
	_, own, err := r.take(api.Entry{Type: api.OfRoot, First: first, Len: mark.Manifest.Len})
	if err != nil {
		return Found{}, err
	}
	for _, entry := range r.top.Entries {
		b, sectors, err := r.take(entry)
		if err != nil {
			return Found{}, err
		}
		r.Tree.Frames = append(r.Tree.Frames, b)
		r.Tree.Sectors = append(r.Tree.Sectors, sectors...)
	}
	r.Tree.Sectors = append(r.Tree.Sectors, own...)
	if rule, _ := audit.Check(r.View); rule > 0 {
		return Found{}, &api.Fault{Sector: first, Err: api.ErrForm}
	}
	return r.Found, nil
}

// take takes over what stands in an entry's frame: the frame's bytes, and its sectors.
func (r *reader) take(entry api.Entry) ([]byte, []int, error) {
	b, sectors, err := chain.Read(r.disk, entry.First, entry.Len)
	if err != nil {
		return nil, nil, err
	}
	if e := r.takeChain(entry, b, sectors); e != api.OK {
		return nil, nil, &api.Fault{Sector: entry.First, Err: e}
	}
	return b, sectors, nil
}

// takeChain takes over what stands in a chain, which is to be an entry's.
func (r *reader) takeChain(entry api.Entry, b []byte, sectors []int) api.Errno {
	if !r.meet(sectors) {
		return api.ErrTwice
	}
	f, e := frame.Decode(b)
	switch {
	case e != api.OK:
		return e
	case f.Kind != entry.Type:
		return api.ErrKind
	}
	switch entry.Type {
	case api.OfRoot:
		return r.takeRoot(f.Body)
	case api.OfKinds:
		return takePage(&r.View.Kinds, r.top.Kinds, page.PerKinds, f.Body, page.ReadKinds)
	case api.OfRows:
		return takePage(&r.View.Rows, r.top.Rows, page.PerRows, f.Body, page.ReadRows)
	}
	return r.takeSpan(entry.Id, f.Body)
}

// meet says whether none of a chain's sectors is one of a chain that was read ahead of it.
func (r *reader) meet(sectors []int) bool {
	for _, s := range sectors {
		if _, twice := r.met[s]; twice {
			return false
		}
		r.met[s] = struct{}{}
	}
	return true
}

// takeRoot takes over what the root tells.
func (r *reader) takeRoot(body []byte) api.Errno {
	top, e := root.Read(body, r.disk.Len())
	if e != api.OK {
		return e
	}
	r.top = top
	r.View.Pages, r.Workers, r.Handles = top.Pages, top.Workers, top.Handles
	r.View.Bytes = make([]byte, top.Pages*api.PageSize)
	r.Tree.Entries = top.Entries
	return api.OK
}

// takePage takes over the next page of a list that is to have so many things in all, per of them on each page but the last one.
func takePage[T any](list *[]T, all, per int, body []byte, read func([]byte) ([]T, api.Errno)) api.Errno {
	things, e := read(body)
	if e != api.OK {
		return e
	}
	if len(things) != min(per, all-len(*list)) {
		return api.ErrForm
	}
	*list = append(*list, things...)
	return api.OK
}

// takeSpan takes over the span that begins with a page, at the view's base.
func (r *reader) takeSpan(first int, body []byte) api.Errno {
	m, e := image.Read(body)
	if e != api.OK {
		return e
	}
	if m.Span.Page != first {
		return api.ErrForm
	}
	m, e = image.Move(m, r.View.Base, len(r.View.Bytes))
	if e != api.OK {
		return e
	}
	r.View.Spans = append(r.View.Spans, m.Span)
	r.lay(m)
	return api.OK
}

// lay lays an image's bytes where the live slots of its span are.
func (r *reader) lay(m image.Image) {
	// the span of an image that was read is right
	s, _ := span.Of(m.Span)
	left := m.Bytes
	for _, slot := range m.Span.Live {
		at, _ := s.At(slot)
		// each slot begins on a page that there is; of one that ends behind the pages the view isn't sound, whatever is laid
		copy(r.View.Bytes[at:], left[:s.Size()])
		left = left[s.Size():]
	}
}

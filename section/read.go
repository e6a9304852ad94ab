package section

import (
	"hibernacle/api"
	"hibernacle/crc"
	"hibernacle/wire"
)

// sumSize is how many bytes chapter 2's Seal puts behind a Body.
const sumSize = 4

// file is what the bytes of a file tell.
type file struct {
	version  int
	sections []api.Section
	spans    [][2]int
}

// head is what stands of a section ahead of all Bodies.
type head struct {
	kind, size int
}

// read is the file that b is. The reader keeps the first error, and so which comes first is told by the row of what is read here.
func read(b []byte) (file, api.Errno) {
	opened, e := crc.Open(b)
	if e != api.OK {
		return file{}, e
	}
	r := wire.NewReader(opened)
	if string(r.Raw(len(mark))) != mark {
		r.Fail(api.ErrForm)
	}
	f := file{version: int(r.Fixed(1))}
	heads := readHeads(r)
	for i := range len(heads) {
		f.readBody(r, heads[i])
	}
	if e := r.End(); e != api.OK {
		return file{}, e
	}
	return f, api.OK
}

// readHeads reads how many sections there are, then the head of each.
func readHeads(r *wire.Reader) []head {
	var l []head
	for range r.List(mostSections) {
		kind := int(r.Fixed(1))
		size := r.Short()
		if size > mostBody {
			r.Fail(api.ErrForm)
		}
		l = append(l, head{kind: kind, size: size})
	}
	return l
}

// readBody reads a section's Body and its sum. Bytes of a file stand where they stood ahead of its last sum, so the reader's places are the file's.
func (f *file) readBody(r *wire.Reader, h head) {
	from := r.At()
	body, e := crc.Open(r.Raw(h.size + sumSize))
	r.Fail(e)
	f.sections = append(f.sections, api.Section{Kind: h.kind, Body: body})
	f.spans = append(f.spans, [2]int{from, from + h.size})
}

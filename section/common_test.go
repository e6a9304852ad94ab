package section_test

import (
	"bytes"
	"encoding/binary"
	"hash/crc32"
	"math/rand"
	"slices"
	"testing"

	"hibernacle/api"
	"hibernacle/section"
)

// most is how many bytes a Body has at most.
const most = 1 << 20

// of is a section.
func of(kind int, body ...byte) api.Section {
	return api.Section{Kind: kind, Body: body}
}

// list is sections.
func list(l ...api.Section) []api.Section { return l }

// row is some bytes.
func row(l ...byte) []byte { return l }

// cat is lists, one behind the other, in memory of its own.
func cat(l ...[]byte) []byte {
	return slices.Concat(l...)
}

// some is n bytes, the same ones for the same seed.
func some(seed int64, n int) []byte {
	b := make([]byte, n)
	rand.New(rand.NewSource(seed)).Read(b)
	return b
}

// empties is n sections without bytes.
func empties(n int) []api.Section {
	l := make([]api.Section, n)
	for i := range l {
		l[i].Kind = i
	}
	return l
}

// sealed is b, and its sum. It leans on nothing of the program.
func sealed(b ...byte) []byte {
	return binary.LittleEndian.AppendUint32(slices.Clone(b), crc32.ChecksumIEEE(b))
}

// short is a short number.
func short(n int) []byte {
	return binary.AppendUvarint(nil, uint64(n))
}

// mark is the bytes with which each file begins.
func mark(l ...byte) []byte {
	return cat(row(72, 73, 66, 82), l)
}

// plainWrite is the file as the chapter's words tell it. It leans on nothing of the program.
func plainWrite(version int, l []api.Section) []byte {
	b := mark(byte(version), byte(len(l)))
	for _, s := range l {
		b = cat(b, row(byte(s.Kind)), short(len(s.Body)))
	}
	for _, s := range l {
		b = cat(b, sealed(s.Body...))
	}
	return sealed(b...)
}

// plain is what a file tells.
type plain struct {
	version  int
	sections []api.Section
	spans    [][2]int
}

// plainShort is the short number with which b begins, and how many bytes it takes.
func plainShort(b []byte) (int, int, api.Errno) {
	for i := range min(len(b), 9) {
		if b[i] < 128 {
			n, _ := binary.Uvarint(b[:i+1])
			if !bytes.Equal(short(int(n)), b[:i+1]) {
				return 0, 0, api.ErrForm
			}
			return int(n), i + 1, api.OK
		}
	}
	if len(b) < 9 {
		return 0, 0, api.ErrShort
	}
	return 0, 0, api.ErrForm
}

// plainHeads is the Kinds and sizes with which b begins, and how many bytes they take.
func plainHeads(b []byte) ([][2]int, int, api.Errno) {
	n, at, e := plainShort(b)
	switch {
	case e != api.OK:
		return nil, 0, e
	case n > 16:
		return nil, 0, api.ErrForm
	case n > len(b)-at:
		return nil, 0, api.ErrShort
	}
	var heads [][2]int
	for range n {
		if at == len(b) {
			return nil, 0, api.ErrShort
		}
		size, took, e := plainShort(b[at+1:])
		if e != api.OK {
			return nil, 0, e
		}
		if size > most {
			return nil, 0, api.ErrForm
		}
		heads = append(heads, [2]int{int(b[at]), size})
		at += 1 + took
	}
	return heads, at, api.OK
}

// plainRead is what b tells, as the chapter's words have it, one behind the other.
func plainRead(b []byte) (plain, api.Errno) {
	if len(b) < 4 {
		return plain{}, api.ErrShort
	}
	b, sum := b[:len(b)-4], b[len(b)-4:]
	if binary.LittleEndian.Uint32(sum) != crc32.ChecksumIEEE(b) {
		return plain{}, api.ErrSum
	}
	if len(b) < 4 {
		return plain{}, api.ErrShort
	}
	if !bytes.HasPrefix(b, mark()) {
		return plain{}, api.ErrForm
	}
	if len(b) < 5 {
		return plain{}, api.ErrShort
	}
	p := plain{version: int(b[4])}
	heads, took, e := plainHeads(b[5:])
	if e != api.OK {
		return plain{}, e
	}
	at := 5 + took
	for _, h := range heads {
		if len(b)-at < h[1]+4 {
			return plain{}, api.ErrShort
		}
		body := b[at : at+h[1]]
		if !bytes.Equal(sealed(body...), b[at:at+h[1]+4]) {
			return plain{}, api.ErrSum
		}
		p.sections = append(p.sections, of(h[0], slices.Clone(body)...))
		p.spans = append(p.spans, [2]int{at, at + h[1]})
		at += h[1] + 4
	}
	if at < len(b) {
		return plain{}, api.ErrForm
	}
	return p, api.OK
}

// equal tells whether both are the same sections. It leans on nothing of the package.
func equal(a, b []api.Section) bool {
	return slices.EqualFunc(a, b, func(x, y api.Section) bool {
		return x.Kind == y.Kind && bytes.Equal(x.Body, y.Body)
	})
}

// isSections asks that a call answers these sections.
func isSections(t *testing.T, name string, got, want []api.Section) {
	t.Helper()
	if !equal(got, want) {
		t.Errorf("%s: %v, not %v", name, got, want)
	}
}

// isRead asks that Read and Spans tell of b what the chapter's words do: what stands there, or the same error, and nothing beside it.
func isRead(t *testing.T, name string, b []byte) {
	t.Helper()
	want, e := plainRead(b)
	version, l, got := section.Read(b)
	if got != e || version != want.version || !equal(l, want.sections) {
		t.Errorf("%s: Read of %v: %d, %v, error %d, not %d, %v, error %d", name, b, version, l, got, want.version, want.sections, e)
	}
	spans, got := section.Spans(b)
	if got != e || !slices.Equal(spans, want.spans) {
		t.Errorf("%s: Spans of %v: %v, error %d, not %v, error %d", name, b, spans, got, want.spans, e)
	}
}

// refused asks that Read and Spans refuse b with e, and tell nothing beside.
func refused(t *testing.T, name string, b []byte, e api.Errno) {
	t.Helper()
	version, l, got := section.Read(b)
	if got != e || version != 0 || len(l) != 0 {
		t.Errorf("%s: Read of %v: %d, %v, error %d, not %d", name, b, version, l, got, e)
	}
	spans, got := section.Spans(b)
	if got != e || len(spans) != 0 {
		t.Errorf("%s: Spans of %v: %v, error %d, not %d", name, b, spans, got, e)
	}
}

// anySections is some sections: few Kinds, so that some are there twice; few bytes, and now and then more than one byte tells.
func anySections(r *rand.Rand) []api.Section {
	l := make([]api.Section, r.Intn(17))
	for i := range l {
		n := r.Intn(6)
		if r.Intn(8) == 0 {
			n = r.Intn(400)
		}
		l[i] = of(r.Intn(4), some(r.Int63(), n)...)
		if r.Intn(4) == 0 {
			l[i].Kind = r.Intn(256)
		}
	}
	return l
}

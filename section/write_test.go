package section_test

import (
	"bytes"
	"math"
	"math/rand"
	"slices"
	"testing"

	"hibernacle/api"
	"hibernacle/section"
)

// P16.1: which files there are, and their bytes

// isFile asks that there is such a file, and that it is as the chapter's words tell it.
func isFile(t *testing.T, name string, version int, l []api.Section) {
	t.Helper()
	if !section.May(version, l) {
		t.Errorf("%s: there is no such file", name)
	}
	b, e := section.Write(version, l)
	if want := plainWrite(version, l); e != api.OK || !bytes.Equal(b, want) {
		t.Errorf("%s: %d bytes, error %d, not %d bytes", name, len(b), e, len(want))
	}
}

// isNone asks that there is no such file.
func isNone(t *testing.T, name string, version int, l []api.Section) {
	t.Helper()
	if section.May(version, l) {
		t.Errorf("%s: there is such a file", name)
	}
	if b, e := section.Write(version, l); e != api.ErrArg || len(b) != 0 {
		t.Errorf("%s: %d bytes, error %d", name, len(b), e)
	}
}

// noByte is numbers that no byte has.
var noByte = []int{math.MinInt, -1 << 32, -256, -255, -1, 256, 257, 300, 511, 512, 1 << 16, 1 << 32, 1<<32 + 3, math.MaxInt}

func TestWriteByHand(t *testing.T) {
	for _, c := range []struct {
		name    string
		version int
		l       []api.Section
		b       []byte
	}{
		{"none", 3, nil, row(72, 73, 66, 82, 3, 0, 49, 42, 34, 114)},
		{"none", 3, list(), row(72, 73, 66, 82, 3, 0, 49, 42, 34, 114)},
		{"three", 255, list(of(9, 'a', 'b', 'c'), of(0), of(9, 255)), row(
			72, 73, 66, 82, 255, 3, 9, 3, 0, 0, 9, 1,
			97, 98, 99, 194, 65, 36, 53,
			0, 0, 0, 0,
			255, 0, 0, 0, 255,
			46, 130, 144, 157,
		)},
	} {
		if b, e := section.Write(c.version, c.l); e != api.OK || !bytes.Equal(b, c.b) {
			t.Errorf("%s: %v, error %d, not %v", c.name, b, e, c.b)
		}
		isFile(t, c.name, c.version, c.l)
		isRead(t, c.name, c.b)
	}
}

func TestVersionsOfFiles(t *testing.T) {
	for version := range 256 {
		isFile(t, "a version", version, nil)
		isFile(t, "a version", version, list(of(version, 7), of(255-version)))
	}
	for _, version := range noByte {
		isNone(t, "no version", version, nil)
		isNone(t, "no version", version, list(of(1, 2)))
	}
}

func TestHowManySectionsAFileHas(t *testing.T) {
	for n := range 17 {
		isFile(t, "some sections", 3, empties(n))
	}
	for _, n := range []int{17, 18, 128, 255, 256, 257, 300} {
		isNone(t, "too many sections", 3, make([]api.Section, n))
	}
}

func TestKindsOfSections(t *testing.T) {
	for at := range 16 {
		for _, kind := range []int{0, 1, 127, 128, 254, 255} {
			l := empties(16)
			l[at].Kind = kind
			isFile(t, "a Kind", 0, l)
		}
		for _, kind := range noByte {
			l := empties(16)
			l[at].Kind = kind
			isNone(t, "no Kind", 0, l)
			isNone(t, "no Kind", 0, l[at:at+1])
		}
	}
	isFile(t, "one Kind alone", 0, make([]api.Section, 16))
}

func TestSizesOfBodies(t *testing.T) {
	for _, n := range []int{0, 1, 2, 127, 128, 129, 300, 16383, 16384, 16385, 1 << 16, most - 1, most} {
		isFile(t, "a Body", 1, list(of(5, some(int64(n), n)...)))
	}
	for _, n := range []int{most + 1, most + 2, 2 * most, 16 * most} {
		isNone(t, "too great a Body", 1, list(of(5, make([]byte, n)...)))
	}
	great, greater := make([]byte, most), make([]byte, most+1)
	for at := range 16 {
		l := empties(16)
		l[at].Body = great
		isFile(t, "a great Body", 1, l)
		l[at].Body = greater
		isNone(t, "too great a Body among others", 1, l)
	}
	all := slices.Repeat(list(of(1, great...)), 16)
	isFile(t, "great Bodies", 1, all)
}

func TestWriteOfAnySections(t *testing.T) {
	r := rand.New(rand.NewSource(161))
	for range 2000 {
		isFile(t, "any", r.Intn(256), anySections(r))
	}
}

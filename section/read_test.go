package section_test

import (
	"bytes"
	"math/rand"
	"slices"
	"testing"

	"hibernacle/api"
	"hibernacle/section"
)

// P16.1: what a file tells, and of what is none the first error. P16.2: Spans tells the same errors.

// three is a file's bytes, but its last sum: of the version 7, three sections, of which the second one has none.
func three() []byte {
	return cat(mark(7, 3, 1, 3, 200, 0, 1, 1), sealed(10, 11, 12), sealed(), sealed(13))
}

func TestReadByHand(t *testing.T) {
	version, l, e := section.Read(sealed(three()...))
	if version != 7 || e != api.OK {
		t.Errorf("the version %d, error %d", version, e)
	}
	isSections(t, "three", l, list(of(1, 10, 11, 12), of(200), of(1, 13)))
	version, l, e = section.Read(row(72, 73, 66, 82, 3, 0, 49, 42, 34, 114))
	if version != 3 || len(l) != 0 || e != api.OK {
		t.Errorf("the version %d, %v, error %d", version, l, e)
	}
}

func TestReadOfEachVersionAndKind(t *testing.T) {
	for n := range 256 {
		version, l, e := section.Read(sealed(cat(mark(byte(n), 1, byte(255-n), 0), sealed())...))
		if version != n || e != api.OK {
			t.Errorf("the version %d, not %d, error %d", version, n, e)
		}
		isSections(t, "a Kind", l, list(of(255-n)))
	}
}

func TestReadOfEachNumberOfSections(t *testing.T) {
	for n := range 17 {
		version, l, e := section.Read(plainWrite(9, empties(n)))
		if version != 9 || e != api.OK {
			t.Errorf("the version %d, error %d", version, e)
		}
		isSections(t, "some", l, empties(n))
	}
}

func TestReadOfGreatBodies(t *testing.T) {
	for _, n := range []int{127, 128, 300, 16383, 16384, most - 1, most} {
		want := list(of(4, some(1, n)...), of(5, 6), of(7, some(2, n)...))
		version, l, e := section.Read(plainWrite(2, want))
		if version != 2 || e != api.OK || !equal(l, want) {
			t.Errorf("%d bytes: the version %d, %d sections, error %d", n, version, len(l), e)
		}
	}
	all := slices.Repeat(list(of(1, some(3, most)...)), 16)
	if _, l, e := section.Read(plainWrite(2, all)); e != api.OK || !equal(l, all) {
		t.Errorf("16 great ones: %d sections, error %d", len(l), e)
	}
}

// What the last sum does not tell is refused ahead of all else.
func TestTheLastSumComesFirst(t *testing.T) {
	refused(t, "nil", nil, api.ErrShort)
	whole := sealed(three()...)
	for n := range 4 {
		refused(t, "fewer than four bytes", make([]byte, n), api.ErrShort)
		refused(t, "fewer than four bytes", whole[:n], api.ErrShort)
	}
	for n := 4; n < len(whole); n++ {
		refused(t, "a file that is cut", whole[:n], api.ErrSum)
	}
	refused(t, "a file and a byte", cat(whole, row(0)), api.ErrSum)
	for _, b := range [][]byte{
		{}, {1, 2}, {1, 2, 3, 4, 5}, mark(), mark(3), mark(3, 17), mark(3, 128, 0), mark(3, 1, 5), cat(mark(3, 1, 5), short(most+1)),
		mark(3, 1, 5, 3, 1), cat(mark(3, 1, 5, 1), row(1, 0, 0, 0, 0)), mark(3, 0, 9), three(),
	} {
		isRead(t, "with its sum", sealed(b...))
		for i := range 32 {
			other := sealed(b...)
			other[len(b)+i/8] ^= 1 << (i % 8)
			refused(t, "with another sum", other, api.ErrSum)
		}
	}
}

func TestAFileBeginsWithTheFourBytes(t *testing.T) {
	// Fewer bytes than four are short, whatever they are; with four of them, it is their form that is told.
	for n := range 4 {
		refused(t, "fewer of them", sealed(mark()[:n]...), api.ErrShort)
		refused(t, "fewer others", sealed(make([]byte, n)...), api.ErrShort)
	}
	refused(t, "four others", sealed(1, 2, 3, 4), api.ErrForm)
	refused(t, "the other way round", sealed(82, 66, 73, 72, 3, 0), api.ErrForm)
	refused(t, "one late", sealed(cat(row(0), three())...), api.ErrForm)
	for i := range 32 {
		b := three()
		b[i/8] ^= 1 << (i % 8)
		refused(t, "a bit of them", sealed(b...), api.ErrForm)
		refused(t, "a bit of them, and none behind", sealed(b[:4]...), api.ErrForm)
	}
	refused(t, "they alone", sealed(mark()...), api.ErrShort)
	refused(t, "they, and a version", sealed(mark(3)...), api.ErrShort)
}

// List tells how many there are: 16 at most, and as many bytes as are left at most.
func TestHowManySectionsAreRead(t *testing.T) {
	fill := make([]byte, 200)
	for _, n := range []int{17, 18, 127, 128, 300, 1 << 20, 1 << 60} {
		refused(t, "too many, none behind", sealed(cat(mark(3), short(n))...), api.ErrForm)
		refused(t, "too many, and bytes behind", sealed(cat(mark(3), short(n), fill)...), api.ErrForm)
	}
	for n := 1; n <= 16; n++ {
		b := mark(3, byte(n))
		refused(t, "none behind", sealed(b...), api.ErrShort)
		refused(t, "too few behind", sealed(cat(b, fill[:n-1])...), api.ErrShort)
		// Fewer bytes than sections are told ahead of what stands there: 128, 0 is of no form.
		if n > 3 {
			refused(t, "few of no form behind", sealed(cat(b, row(1, 128, 0))...), api.ErrShort)
		}
	}
	refused(t, "one of no form", sealed(mark(3, 1, 1, 128, 0)...), api.ErrForm)
	for _, form := range [][]byte{{128, 0}, {144, 0}, {129, 128, 0}, bytes.Repeat(row(255), 9), bytes.Repeat(row(128), 20)} {
		refused(t, "of no form", sealed(cat(mark(3), form, fill)...), api.ErrForm)
	}
	for n := 1; n < 9; n++ {
		refused(t, "cut", sealed(cat(mark(3), bytes.Repeat(row(128), n))...), api.ErrShort)
	}
}

// heads is the bytes of a file, but its last sum, of which so many sections are told, and these bytes stand behind that.
func heads(n int, l ...[]byte) []byte {
	return sealed(cat(mark(3, byte(n)), cat(l...))...)
}

func TestSizesThatAreRead(t *testing.T) {
	fill := make([]byte, 300)
	for _, n := range []int{most + 1, most + 2, 1<<21 - 1, 1 << 21, 1 << 31, 1 << 32, 1 << 40, 1<<63 - 4, 1<<63 - 1} {
		refused(t, "too great, none behind", heads(1, row(9), short(n)), api.ErrForm)
		refused(t, "too great, and bytes behind", heads(1, row(9), short(n), fill), api.ErrForm)
		// It is told where it stands: ahead of heads that are not there, and of Bodies with other sums.
		refused(t, "too great, and no head behind", heads(2, row(9), short(n)), api.ErrForm)
		refused(t, "too great, and a head cut short", heads(2, row(9), short(n), row(9)), api.ErrForm)
		refused(t, "too great, behind a Body's head", heads(2, row(9, 1, 9), short(n), row(1, 0, 0, 0, 0)), api.ErrForm)
		refused(t, "too great, behind a head cut short", heads(2, row(9, 128)), api.ErrShort)
	}
	for _, n := range []int{1, 300, most - 1, most} {
		refused(t, "a Body that is not there", heads(1, row(9), short(n)), api.ErrShort)
		refused(t, "two of them", heads(2, row(9), short(n), row(9), short(n)), api.ErrShort)
	}
	for _, form := range [][]byte{{128, 0}, {131, 0}, {129, 128, 0}, bytes.Repeat(row(255), 9), bytes.Repeat(row(128), 20)} {
		refused(t, "of no form", heads(1, row(9), form, fill), api.ErrForm)
		refused(t, "of no form, and no head behind", heads(2, row(9), form), api.ErrForm)
	}
	for n := 1; n < 9; n++ {
		refused(t, "cut", heads(1, row(9), bytes.Repeat(row(128), n)), api.ErrShort)
	}
	refused(t, "a Kind alone", heads(1, row(9)), api.ErrShort)
	refused(t, "a head and a Kind", heads(2, row(9, 0, 9)), api.ErrShort)
}

func TestBodiesThatAreShort(t *testing.T) {
	b := three()
	for n := 4; n < len(b); n++ {
		refused(t, "cut", sealed(b[:n]...), api.ErrShort)
	}
	// A sum needs its four bytes, too, even of none.
	for n := range 4 {
		refused(t, "a Body without all of its sum", heads(1, row(9, 0), make([]byte, n)), api.ErrShort)
		refused(t, "a Body without all of its sum", heads(1, row(9, 2), sealed(5, 6)[:2+n]), api.ErrShort)
	}
	isRead(t, "a Body with all of it", heads(1, row(9, 0), sealed()))
}

func TestBodiesOfOtherSums(t *testing.T) {
	for at := 12; at < len(three()); at++ {
		for bit := range 8 {
			b := three()
			b[at] ^= 1 << bit
			refused(t, "a bit of a Body or its sum", sealed(b...), api.ErrSum)
		}
	}
	// The sum of one is not that of another one.
	refused(t, "two that are changed over", heads(2, row(9, 1, 9, 1), row(5), sealed(6)[1:], row(6), sealed(5)[1:]), api.ErrSum)
	refused(t, "the highest byte first", heads(1, row(9, 1), row('a', 0xE8, 0xB7, 0xBE, 0x43)), api.ErrSum)
	isRead(t, "the lowest byte first", heads(1, row(9, 1), row('a', 0x43, 0xBE, 0xB7, 0xE8)))
	// A size that is one less, or more, is that of other bytes.
	refused(t, "one less", heads(1, row(9, 2), sealed(5, 6, 7)), api.ErrSum)
	refused(t, "one more", heads(1, row(9, 4), sealed(5, 6, 7), row(0)), api.ErrSum)
}

func TestBodyByBody(t *testing.T) {
	bad, good := row(1, 0, 0, 0, 0), sealed(1)
	refused(t, "another sum, then short", heads(2, row(9, 1, 9, 1), bad), api.ErrSum)
	refused(t, "short, where another sum might stand", heads(2, row(9, 1, 9, 9), good, bad), api.ErrShort)
	refused(t, "good, then another sum", heads(2, row(9, 1, 9, 1), good, bad), api.ErrSum)
	refused(t, "another sum, then good", heads(2, row(9, 1, 9, 1), bad, good), api.ErrSum)
	refused(t, "another sum, then bytes that are left", heads(1, row(9, 1), bad, good), api.ErrSum)
	refused(t, "good, another sum, then short", heads(3, row(9, 1, 9, 1, 9, 1), good, bad), api.ErrSum)
	refused(t, "a head of no form, and another sum", heads(2, row(9, 1, 9, 128, 0), bad), api.ErrForm)
	refused(t, "a head that is short, and no sum", heads(2, row(9, 1, 9, 128)), api.ErrShort)
}

func TestBytesThatAreLeft(t *testing.T) {
	for n := 1; n < 40; n++ {
		refused(t, "behind none", heads(0, make([]byte, n)), api.ErrForm)
		refused(t, "behind three", sealed(cat(three(), some(int64(n), n))...), api.ErrForm)
	}
	refused(t, "a file and its sum again", sealed(sealed(three()...)...), api.ErrForm)
	refused(t, "two files", sealed(cat(sealed(three()...), three())...), api.ErrForm)
	refused(t, "a Body more than told", heads(1, row(9, 1), sealed(1), sealed(2)), api.ErrForm)
}

// Bytes that are changed by chance, and sealed again, are told as the chapter's words do.
func TestReadOfChangedFiles(t *testing.T) {
	r := rand.New(rand.NewSource(1611))
	for range 6000 {
		l := anySections(r)
		b := plainWrite(r.Intn(256), l[:min(len(l), 5)])
		b = b[:len(b)-4]
		for range r.Intn(3) {
			at := r.Intn(min(len(b), 24))
			switch r.Intn(3) {
			case 0:
				b[at] = byte(r.Intn(256))
			case 1:
				b[at] ^= byte(1 << r.Intn(8))
			case 2:
				b = b[:len(b)-r.Intn(len(b)/2)]
			}
		}
		isRead(t, "changed", sealed(b...))
	}
	for range 6000 {
		b := mark(3)
		for range r.Intn(24) {
			b = append(b, byte(r.Intn(3)))
		}
		isRead(t, "by chance", sealed(b...))
	}
}

package section_test

import (
	"bytes"
	"math/rand"
	"slices"
	"testing"

	"hibernacle/api"
	"hibernacle/section"
)

// P16.3

// returns asks that a file is read as it was written.
func returns(t *testing.T, version int, l []api.Section) {
	t.Helper()
	b, e := section.Write(version, l)
	if e != api.OK {
		t.Fatalf("%d, %v: error %d", version, l, e)
	}
	gotVersion, got, e := section.Read(b)
	if e != api.OK || gotVersion != version || !equal(got, l) || !section.Same(got, l) {
		t.Errorf("the version %d, %d sections: the version %d, %d sections, error %d", version, len(l), gotVersion, len(got), e)
	}
}

func TestFilesAreReadAsTheyWereWritten(t *testing.T) {
	r := rand.New(rand.NewSource(163))
	for range 3000 {
		returns(t, r.Intn(256), anySections(r))
	}
	for n := range 260 {
		returns(t, 0, list(of(1, some(int64(n), n)...), of(2, make([]byte, n)...)))
	}
	for _, n := range []int{16383, 16384, most - 1, most} {
		returns(t, 255, slices.Repeat(list(of(255, some(5, n)...)), 2))
	}
	// A file's bytes are bytes, too, and may be a section of another one.
	inner := plainWrite(3, list(of(1, 2, 3)))
	for range 20 {
		returns(t, 3, list(of(1, inner...), of(2, inner...)))
		inner = plainWrite(3, list(of(1, inner...)))
	}
}

// its asks that b, if it is read, is the file of what it is read as.
func its(t *testing.T, b []byte) bool {
	t.Helper()
	version, l, e := section.Read(b)
	if e != api.OK {
		return false
	}
	if again, e := section.Write(version, l); e != api.OK || !bytes.Equal(again, b) {
		t.Errorf("%v is read, and written %v, error %d", b, again, e)
	}
	return true
}

func TestBytesThatAreReadAreWrittenSo(t *testing.T) {
	many := 0
	for _, b := range [][]byte{three(), mark(3, 0), cat(mark(3, 2, 0, 0, 1, 1), sealed(), sealed(5))} {
		for i := range b {
			for v := range 256 {
				for _, x := range [][]byte{
					cat(b[:i], row(byte(v)), b[i+1:]),
					cat(b[:i], row(byte(v)), b[i:]),
					cat(b[:i], row(byte(v), byte(v>>4)), b[i+1:]),
				} {
					isRead(t, "changed", sealed(x...))
					if its(t, sealed(x...)) {
						many++
					}
				}
			}
		}
	}
	if many < 1000 {
		t.Errorf("only %d were read: too few are asked", many)
	}
}

// turns is differences of four bytes: single bits, pairs of bits, runs of bits, and some more.
func turns(r *rand.Rand) []uint32 {
	var l []uint32
	for i := range 32 {
		for j := range 32 {
			l = append(l, 1<<i|1<<j, ^uint32(0)>>i<<j)
		}
	}
	for range 500 {
		l = append(l, r.Uint32())
	}
	return slices.DeleteFunc(l, func(d uint32) bool { return d == 0 })
}

// unread asks that b with the four bytes at the place turned by d is refused; those of them that stand behind its end are left.
func unread(t *testing.T, b []byte, at int, d uint32) {
	t.Helper()
	x := slices.Clone(b)
	for i := range min(4, len(b)-at) {
		x[at+i] ^= byte(d >> (8 * i))
	}
	if bytes.Equal(x, b) {
		return
	}
	version, l, e := section.Read(x)
	if e == api.OK || version != 0 || len(l) != 0 {
		t.Errorf("turned by %#x at %d: %d, %v, error %d", d, at, version, l, e)
	}
	if spans, se := section.Spans(x); se != e || len(spans) != 0 {
		t.Errorf("turned by %#x at %d: Spans %v, error %d, not %d", d, at, spans, se, e)
	}
}

func TestFilesOfWhichBitsAreTurnedAreRefused(t *testing.T) {
	r := rand.New(rand.NewSource(1633))
	for _, b := range [][]byte{sealed(three()...), plainWrite(3, nil), plainWrite(0, list(of(0, some(1, 40)...)))} {
		for at := range b {
			for _, d := range turns(r) {
				unread(t, b, at, d)
			}
		}
	}
	great := plainWrite(3, list(of(1, some(2, most)...)))
	for range 20 {
		unread(t, great, r.Intn(len(great)), 1+r.Uint32()>>1)
	}
}

// Other bytes in a section than its sum tells are refused, though the last sum is that of all.
func TestOtherBytesThanASectionsSumTells(t *testing.T) {
	r := rand.New(rand.NewSource(16333))
	for range 3000 {
		l := append(anySections(r), of(7, some(r.Int63(), 1+r.Intn(40))...))
		l = l[len(l)-min(len(l), 16):]
		b := plainWrite(3, l)
		spans, e := section.Spans(b)
		if e != api.OK {
			t.Fatal(e)
		}
		span := spans[len(spans)-1]
		at := span[0] + r.Intn(span[1]-span[0])
		b[at] ^= byte(1 + r.Intn(255))
		refused(t, "other bytes", sealed(b[:len(b)-4]...), api.ErrSum)
	}
}

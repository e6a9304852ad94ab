package crc_test

import (
	"math/bits"
	"slices"
	"testing"

	"hibernacle/crc"
)

// P2.3

// with is b with the four bytes of d, the lowest first, turned at the place at; bytes that would stand behind b's end are left.
func with(b []byte, at int, d uint32) []byte {
	other := slices.Clone(b)
	for i := range min(4, len(b)-at) {
		other[at+i] ^= byte(d >> (8 * i))
	}
	return other
}

// turns is differences of four bytes: single bits, pairs of bits, runs of bits, and some more.
func turns() []uint32 {
	var l []uint32
	for i := range 32 {
		for j := range 32 {
			l = append(l, 1<<i|1<<j, ^uint32(0)>>i<<j)
		}
	}
	for i := range 2000 {
		l = append(l, uint32(i)*2654435761)
	}
	return slices.DeleteFunc(l, func(d uint32) bool { return d == 0 })
}

func TestTextsThatDifferWithinFourBytesHaveOtherSums(t *testing.T) {
	for _, n := range []int{4, 5, 9, 33, 64} {
		b := some(int64(n), n)
		sum := crc.Of(b)
		for at := range n - 3 {
			for _, d := range turns() {
				if crc.Fits(with(b, at, d), sum) {
					t.Fatalf("%d bytes, turned by %#x at %d: the same sum", n, d, at)
				}
			}
		}
	}
}

func TestTextsOfUpToTwoBytesHaveSumsOfTheirOwn(t *testing.T) {
	for n := range 3 {
		seen := map[uint32]int{}
		for v := range 1 << (8 * n) {
			b := with(make([]byte, n), 0, uint32(v))
			if other, ok := seen[crc.Of(b)]; ok {
				t.Fatalf("%d bytes: %#x and %#x have the same sum", n, v, other)
			}
			seen[crc.Of(b)] = v
		}
	}
}

// rank is how many of the differences l are not made of others.
func rank(l []uint32) int {
	var rows [32]uint32
	n := 0
	for _, d := range l {
		for d != 0 {
			top := bits.Len32(d) - 1
			if rows[top] == 0 {
				rows[top] = d
				n++
				break
			}
			d ^= rows[top]
		}
	}
	return n
}

// A sum's difference hangs on the texts' difference alone, and is made of those of its single bits: where these 32 are independent, no difference of four bytes leaves the sum as it is.
func TestSingleBitsOfFourBytesTurnSumsIndependently(t *testing.T) {
	for n := 1; n <= 80; n++ {
		b, zeros := some(int64(n), n), make([]byte, n)
		side := min(n, 4)
		for at := range n - side + 1 {
			var l []uint32
			for i := range 8 * side {
				d := crc.Of(with(b, at, 1<<i)) ^ crc.Of(b)
				if d != crc.Of(with(zeros, at, 1<<i))^crc.Of(zeros) {
					t.Fatalf("%d bytes, bit %d turned at %d: the sum hangs on more than that", n, i, at)
				}
				l = append(l, d)
			}
			if rank(l) != 8*side {
				t.Fatalf("%d bytes, at %d: only %d bits are independent", n, at, rank(l))
			}
		}
	}
}

func TestInWhateverPiecesTheSumIsTheSame(t *testing.T) {
	b := some(3, 40)
	want := crc.Of(b)
	for i := range len(b) + 1 {
		for j := i; j <= len(b); j++ {
			s := crc.New()
			s.Add(b[:i]...)
			s.Add(b[i:j]...)
			s.Add(b[j:]...)
			if s.Now() != want || s.Len() != len(b) {
				t.Errorf("cut at %d and %d: %#x, %d", i, j, s.Now(), s.Len())
			}
		}
	}
	for size := 1; size <= len(b)+1; size++ {
		s := crc.New()
		for piece := range slices.Chunk(b, size) {
			s.Add(piece...)
		}
		if s.Now() != want {
			t.Errorf("in pieces of %d: %#x", size, s.Now())
		}
	}
}

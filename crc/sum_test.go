package crc_test

import (
	"bytes"
	"hash/crc32"
	"math/rand"
	"slices"
	"testing"

	"hibernacle/crc"
)

// known is texts with sums that are told elsewhere.
var known = []struct {
	text string
	sum  uint32
}{
	{"", 0},
	{"\x00", 0xD202EF8D},
	{"\xff", 0xFF000000},
	{"a", 0xE8B7BE43},
	{"abc", 0x352441C2},
	{"\x00\x00\x00\x00", 0x2144DF1C},
	{"\xff\xff\xff\xff", 0xFFFFFFFF},
	{"123456789", 0xCBF43926},
	{"The quick brown fox jumps over the lazy dog", 0x414FA339},
}

// some is n bytes, the same ones for the same seed.
func some(seed int64, n int) []byte {
	b := make([]byte, n)
	rand.New(rand.NewSource(seed)).Read(b)
	return b
}

// plain is the sum as the chapter's words tell it, bit by bit.
func plain(b []byte) uint32 {
	r := uint32(0xFFFFFFFF)
	for _, x := range b {
		r ^= uint32(x)
		for range 8 {
			if r&1 == 1 {
				r = r>>1 ^ 0xEDB88320
			} else {
				r >>= 1
			}
		}
	}
	return r ^ 0xFFFFFFFF
}

// P2.1

func TestNewIsOfNoBytes(t *testing.T) {
	s := crc.New()
	if s.Now() != 0 || s.Len() != 0 {
		t.Errorf("%#x, %d", s.Now(), s.Len())
	}
	s.Add()
	s.Add([]byte{}...)
	if s.Now() != 0 || s.Len() != 0 {
		t.Errorf("none more: %#x, %d", s.Now(), s.Len())
	}
}

func TestSumsOfKnownTexts(t *testing.T) {
	for _, c := range known {
		if sum := crc.Of([]byte(c.text)); sum != c.sum {
			t.Errorf("Of(%q): %#x, not %#x", c.text, sum, c.sum)
		}
		s := crc.New()
		s.Add([]byte(c.text)...)
		if s.Now() != c.sum || s.Len() != len(c.text) {
			t.Errorf("%q: %#x, %d", c.text, s.Now(), s.Len())
		}
	}
	if sum := crc.Of(nil); sum != 0 {
		t.Errorf("Of(nil): %#x", sum)
	}
}

func TestSumsOfEachByteAndPair(t *testing.T) {
	for n := range 1 << 16 {
		one, two := []byte{byte(n)}, []byte{byte(n), byte(n >> 8)}
		for _, b := range [][]byte{one, two} {
			if sum := crc.Of(b); sum != plain(b) {
				t.Fatalf("Of(%v): %#x, not %#x", b, sum, plain(b))
			}
		}
	}
}

func TestSumsOfTextsOfManySizes(t *testing.T) {
	for n := range 600 {
		for _, b := range [][]byte{some(int64(n), n), make([]byte, n), bytes.Repeat([]byte{255}, n)} {
			want := crc32.ChecksumIEEE(b)
			if sum := crc.Of(b); sum != want || sum != plain(b) {
				t.Errorf("Of(%v): %#x, not %#x", b, sum, want)
			}
		}
	}
	b := some(7, 1<<20)
	if sum := crc.Of(b); sum != crc32.ChecksumIEEE(b) {
		t.Errorf("of 2^20 bytes: %#x", sum)
	}
}

func TestNowIsOfAllThatCameAndMoreMayCome(t *testing.T) {
	b := some(1, 300)
	s := crc.New()
	for i, x := range b {
		s.Add(x)
		for range 2 {
			if s.Now() != plain(b[:i+1]) || s.Len() != i+1 {
				t.Fatalf("behind %d bytes: %#x, %d", i+1, s.Now(), s.Len())
			}
		}
	}
}

func TestFitsTellsWhetherItIsThatSum(t *testing.T) {
	for _, c := range known {
		if !crc.Fits([]byte(c.text), c.sum) {
			t.Errorf("%q: %#x does not fit", c.text, c.sum)
		}
		for i := range 32 {
			if other := c.sum ^ 1<<i; crc.Fits([]byte(c.text), other) {
				t.Errorf("%q: %#x fits", c.text, other)
			}
		}
		if crc.Fits([]byte(c.text), ^c.sum) {
			t.Errorf("%q: %#x fits", c.text, ^c.sum)
		}
	}
	if !crc.Fits(nil, 0) || crc.Fits(nil, 1) {
		t.Error("of none")
	}
}

func TestEachSumHasItsOwnBytes(t *testing.T) {
	a, b := crc.New(), crc.New()
	a.Add(1, 2)
	b.Add(3)
	a.Add(4)
	if a.Now() != plain([]byte{1, 2, 4}) || a.Len() != 3 || b.Now() != plain([]byte{3}) || b.Len() != 1 {
		t.Errorf("%#x, %d; %#x, %d", a.Now(), a.Len(), b.Now(), b.Len())
	}
}

// R4

func TestSumKeepsAndChangesNothingHandedIn(t *testing.T) {
	b := append(make([]byte, 0, 16), 5, 6, 7)
	s := crc.New()
	s.Add(b...)
	if crc.Of(b) != s.Now() || !crc.Fits(b, s.Now()) {
		t.Errorf("%#x", s.Now())
	}
	if !bytes.Equal(b, []byte{5, 6, 7}) || slices.Max(b[3:16]) != 0 {
		t.Errorf("what was handed in is changed: %v", b[:16])
	}
	b[0] = 99
	s.Add(8)
	if s.Now() != plain([]byte{5, 6, 7, 8}) {
		t.Error("what was handed in is kept")
	}
}

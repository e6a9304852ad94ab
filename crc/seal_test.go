package crc_test

import (
	"bytes"
	"slices"
	"testing"

	"hibernacle/api"
	"hibernacle/crc"
)

// P2.2

func TestSealPutsTheSumBehindTheLowestByteFirst(t *testing.T) {
	for _, c := range []struct {
		text string
		sum  []byte
	}{
		{"", []byte{0, 0, 0, 0}},
		{"\x00", []byte{0x8D, 0xEF, 0x02, 0xD2}},
		{"a", []byte{0x43, 0xBE, 0xB7, 0xE8}},
		{"123456789", []byte{0x26, 0x39, 0xF4, 0xCB}},
	} {
		want := append([]byte(c.text), c.sum...)
		if b := crc.Seal([]byte(c.text)); !bytes.Equal(b, want) {
			t.Errorf("Seal(%q): %v, not %v", c.text, b, want)
		}
	}
	if b := crc.Seal(nil); !bytes.Equal(b, []byte{0, 0, 0, 0}) {
		t.Errorf("Seal(nil): %v", b)
	}
}

func TestOpenTellsWhatWasSealed(t *testing.T) {
	for n := range 300 {
		want := some(int64(n), n)
		// A seal is bytes, too, and may be sealed again.
		for _, want := range [][]byte{want, make([]byte, n), crc.Seal(want)} {
			if b, e := crc.Open(crc.Seal(want)); e != api.OK || !bytes.Equal(b, want) {
				t.Errorf("%v of %v, error %d", b, want, e)
			}
		}
	}
}

// unopened asks that b is refused with e, and that nothing is told beside.
func unopened(t *testing.T, b []byte, e api.Errno) {
	t.Helper()
	if got, err := crc.Open(b); err != e || len(got) != 0 {
		t.Errorf("Open(%v): %v, error %d, not %d", b, got, err, e)
	}
}

func TestOpenOfFewerThanFourBytesIsShort(t *testing.T) {
	for n := range 4 {
		unopened(t, make([]byte, n), api.ErrShort)
		unopened(t, bytes.Repeat([]byte{255}, n), api.ErrShort)
		unopened(t, crc.Seal(nil)[:n], api.ErrShort)
	}
	unopened(t, nil, api.ErrShort)
}

func TestOpenOfAnotherSumIsRefused(t *testing.T) {
	for _, b := range [][]byte{{0, 0, 0, 1}, {1, 0, 0, 0}, {255, 255, 255, 255}, {0, 0, 0, 0, 0}, {'a', 0xE8, 0xB7, 0xBE, 0x43}} {
		unopened(t, b, api.ErrSum)
	}
	for n := range 40 {
		sealed := crc.Seal(some(int64(n), n))
		for i := range 8 * len(sealed) {
			turned := slices.Clone(sealed)
			turned[i/8] ^= 1 << (i % 8)
			unopened(t, turned, api.ErrSum)
		}
	}
}

func TestOpenOfACutOrALongerSealIsRefused(t *testing.T) {
	sealed := crc.Seal([]byte("123456789"))
	for n := range sealed {
		e := api.ErrSum
		if n < 4 {
			e = api.ErrShort
		}
		unopened(t, sealed[:n], e)
	}
	unopened(t, append(slices.Clone(sealed), 0), api.ErrSum)
	unopened(t, append([]byte{0}, sealed...), api.ErrSum)
}

// R4

func TestSealsShareNoMemory(t *testing.T) {
	in := append(make([]byte, 0, 16), 5, 6, 7)
	sealed := crc.Seal(in)
	if !bytes.Equal(in, []byte{5, 6, 7}) || slices.Max(in[3:16]) != 0 {
		t.Errorf("Seal changed what was handed in: %v", in[:16])
	}
	in[0] = 99
	if !bytes.Equal(sealed[:3], []byte{5, 6, 7}) {
		t.Errorf("Seal's answer is what was handed in: %v", sealed)
	}
	whole := slices.Clone(sealed)
	opened, e := crc.Open(sealed)
	if e != api.OK || !bytes.Equal(sealed, whole) {
		t.Errorf("Open changed what was handed in: %v, error %d", sealed, e)
	}
	opened[0] = 88
	_ = append(opened, 77, 77, 77, 77)
	if !bytes.Equal(sealed, whole) {
		t.Errorf("Open's answer is what was handed in: %v", sealed)
	}
}

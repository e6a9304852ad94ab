package wire_test

import (
	"bytes"
	"math"
	"slices"
	"testing"

	"hibernacle/wire"
)

// put is the bytes that do puts into a Writer that has nothing.
func put(do func(w *wire.Writer)) []byte {
	var w wire.Writer
	do(&w)
	return w.Bytes()
}

// P1.1

func TestFixedPutsTheLowestBytes(t *testing.T) {
	for _, c := range []struct {
		v    uint64
		n    int
		want []byte
	}{
		{0, 1, []byte{0}},
		{255, 1, []byte{255}},
		{0x1234, 1, []byte{0x34}},
		{0x1234, 2, []byte{0x34, 0x12}},
		{0x123456, 2, []byte{0x56, 0x34}},
		{0x12345678, 4, []byte{0x78, 0x56, 0x34, 0x12}},
		{0x9912345678, 4, []byte{0x78, 0x56, 0x34, 0x12}},
		{1, 8, []byte{1, 0, 0, 0, 0, 0, 0, 0}},
		{0x0102030405060708, 8, []byte{8, 7, 6, 5, 4, 3, 2, 1}},
		{math.MaxUint64, 8, []byte{255, 255, 255, 255, 255, 255, 255, 255}},
	} {
		if b := put(func(w *wire.Writer) { w.Fixed(c.v, c.n) }); !bytes.Equal(b, c.want) {
			t.Errorf("Fixed(%#x, %d): %v, not %v", c.v, c.n, b, c.want)
		}
	}
}

func TestFixedOfNoWidthPutsNothing(t *testing.T) {
	for _, n := range []int{math.MinInt, -1, 0, 3, 5, 6, 7, 9, 16, math.MaxInt} {
		if b := put(func(w *wire.Writer) { w.Fixed(7, n) }); len(b) != 0 {
			t.Errorf("Fixed(7, %d): %v", n, b)
		}
	}
}

func TestShortPutsSevenBitsAByte(t *testing.T) {
	for _, c := range []struct {
		v    int
		want []byte
	}{
		{0, []byte{0}},
		{1, []byte{1}},
		{127, []byte{127}},
		{128, []byte{128, 1}},
		{300, []byte{172, 2}},
		{16383, []byte{255, 127}},
		{16384, []byte{128, 128, 1}},
		{1 << 30, []byte{128, 128, 128, 128, 4}},
		{1<<56 - 1, []byte{255, 255, 255, 255, 255, 255, 255, 127}},
		{1 << 56, []byte{128, 128, 128, 128, 128, 128, 128, 128, 1}},
		{math.MaxInt, []byte{255, 255, 255, 255, 255, 255, 255, 255, 127}},
		{-1, []byte{0}},
		{-300, []byte{0}},
		{math.MinInt, []byte{0}},
	} {
		if b := put(func(w *wire.Writer) { w.Short(c.v) }); !bytes.Equal(b, c.want) {
			t.Errorf("Short(%d): %v, not %v", c.v, b, c.want)
		}
	}
}

func TestSignedPutsTwiceItOrItsDistance(t *testing.T) {
	for _, c := range []struct {
		v    int
		want []byte
	}{
		{0, []byte{0}},
		{-1, []byte{1}},
		{1, []byte{2}},
		{-2, []byte{3}},
		{2, []byte{4}},
		{63, []byte{126}},
		{-64, []byte{127}},
		{64, []byte{128, 1}},
		{-65, []byte{129, 1}},
		{1 << 30, []byte{128, 128, 128, 128, 8}},
		{-1 << 30, []byte{255, 255, 255, 255, 7}},
	} {
		if b := put(func(w *wire.Writer) { w.Signed(c.v) }); !bytes.Equal(b, c.want) {
			t.Errorf("Signed(%d): %v, not %v", c.v, b, c.want)
		}
	}
}

func TestSignedPutsTheNearerBound(t *testing.T) {
	most := []byte{254, 255, 255, 255, 255, 255, 255, 255, 63}
	least := []byte{255, 255, 255, 255, 255, 255, 255, 255, 63}
	for _, c := range []struct {
		v    int
		want []byte
	}{
		{1<<61 - 2, []byte{252, 255, 255, 255, 255, 255, 255, 255, 63}},
		{1<<61 - 1, most},
		{1 << 61, most},
		{1 << 62, most},
		{math.MaxInt, most},
		{-1<<61 + 1, []byte{253, 255, 255, 255, 255, 255, 255, 255, 63}},
		{-1 << 61, least},
		{-1<<61 - 1, least},
		{-1 << 62, least},
		{math.MinInt, least},
	} {
		if b := put(func(w *wire.Writer) { w.Signed(c.v) }); !bytes.Equal(b, c.want) {
			t.Errorf("Signed(%d): %v, not %v", c.v, b, c.want)
		}
	}
}

func TestTextPutsHowManyBytesThenThem(t *testing.T) {
	long := string(bytes.Repeat([]byte{7}, 300))
	for _, c := range []struct {
		s    string
		want []byte
	}{
		{"", []byte{0}},
		{"a", []byte{1, 'a'}},
		{"ab\x00", []byte{3, 'a', 'b', 0}},
		{"\xff\xfe", []byte{2, 255, 254}},
		{"\u00e9", []byte{2, 0xc3, 0xa9}},
		{long, append([]byte{172, 2}, long...)},
	} {
		if b := put(func(w *wire.Writer) { w.Text(c.s) }); !bytes.Equal(b, c.want) {
			t.Errorf("Text(%q): %v, not %v", c.s, b, c.want)
		}
	}
}

func TestRawPutsBytesAsTheyAre(t *testing.T) {
	for _, want := range [][]byte{nil, {}, {0}, {255, 0, 128}, bytes.Repeat([]byte{3}, 1000)} {
		if b := put(func(w *wire.Writer) { w.Raw(want...) }); !bytes.Equal(b, want) {
			t.Errorf("Raw(%v): %v", want, b)
		}
	}
	if b := put(func(w *wire.Writer) { w.Raw() }); len(b) != 0 {
		t.Errorf("Raw(): %v", b)
	}
}

func TestEachCallPutsBehindAllAhead(t *testing.T) {
	var w wire.Writer
	var want []byte
	for i, c := range []struct {
		do   func()
		more []byte
	}{
		{func() { w.Raw(9) }, []byte{9}},
		{func() { w.Text("xy") }, []byte{2, 'x', 'y'}},
		{func() { w.Signed(-3) }, []byte{5}},
		{func() { w.Fixed(1, 2) }, []byte{1, 0}},
		{func() { w.Short(200) }, []byte{200, 1}},
		{func() { w.Raw() }, nil},
		{func() { w.Raw(1, 2) }, []byte{1, 2}},
	} {
		c.do()
		want = append(want, c.more...)
		if b := w.Bytes(); !bytes.Equal(b, want) || w.Len() != len(want) {
			t.Errorf("behind call %d: %v (%d), not %v", i, b, w.Len(), want)
		}
	}
}

func TestWriterOfZeroValueHasNothing(t *testing.T) {
	var w wire.Writer
	if b := w.Bytes(); len(b) != 0 || w.Len() != 0 {
		t.Errorf("%v, %d", b, w.Len())
	}
}

// R4

func TestWriterSharesNoMemory(t *testing.T) {
	in := make([]byte, 2, 8)
	in[0], in[1] = 1, 2
	var w wire.Writer
	w.Raw(in...)
	in[0] = 99
	first := w.Bytes()
	if !bytes.Equal(first, []byte{1, 2}) {
		t.Errorf("what was handed in is kept: %v", first)
	}
	w.Raw(3)
	if room := in[:8]; slices.Max(room[2:]) != 0 {
		t.Errorf("the spare room of what was handed in is changed: %v", room)
	}
	if !bytes.Equal(first, []byte{1, 2}) {
		t.Errorf("what was answered is changed: %v", first)
	}
	_ = append(first, 77)
	first[1] = 88
	w.Raw(4)
	if b := w.Bytes(); !bytes.Equal(b, []byte{1, 2, 3, 4}) {
		t.Errorf("what is answered is not new: %v", b)
	}
}

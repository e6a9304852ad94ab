package wire_test

import (
	"bytes"
	"math"
	"strings"
	"testing"

	"hibernacle/api"
	"hibernacle/wire"
)

// P1.4

// numbers is those beside each power of two, and their negatives.
func numbers() []int {
	l := []int{0, math.MaxInt, math.MinInt}
	for i := range 63 {
		for d := -1; d <= 1; d++ {
			n := 1<<i + d
			l = append(l, n, -n)
		}
	}
	return l
}

func TestNumbersAreReadAsTheyWereWritten(t *testing.T) {
	var w wire.Writer
	for _, n := range numbers() {
		for _, size := range []int{1, 2, 4, 8} {
			w.Fixed(uint64(n), size)
		}
		w.Short(n)
		w.Signed(n)
	}
	r := wire.NewReader(w.Bytes())
	for _, n := range numbers() {
		for _, size := range []int{1, 2, 4, 8} {
			want := uint64(n) << (64 - 8*size) >> (64 - 8*size)
			if v := r.Fixed(size); v != want {
				t.Errorf("Fixed of %d bytes: %#x, not %#x", size, v, want)
			}
		}
		if v := r.Short(); v != max(n, 0) {
			t.Errorf("Short: %d, not %d", v, max(n, 0))
		}
		if v, want := r.Signed(), min(max(n, -1<<61), 1<<61-1); v != want {
			t.Errorf("Signed: %d, not %d", v, want)
		}
	}
	if r.End() != api.OK {
		t.Error(r.Err())
	}
}

func TestTextsAndBytesAreReadAsTheyWereWritten(t *testing.T) {
	var w wire.Writer
	sizes := []int{0, 1, 2, 127, 128, 129, 16383, 16384, 70000}
	for _, n := range sizes {
		w.Text(strings.Repeat("\xc3", n))
		w.Raw(bytes.Repeat([]byte{128}, n)...)
	}
	r := wire.NewReader(w.Bytes())
	for _, n := range sizes {
		if s := r.Text(); s != strings.Repeat("\xc3", n) {
			t.Errorf("a text of %d bytes is another one, of %d", n, len(s))
		}
		if b := r.Raw(n); !bytes.Equal(b, bytes.Repeat([]byte{128}, n)) {
			t.Errorf("%d bytes are others, %d", n, len(b))
		}
	}
	if r.End() != api.OK {
		t.Error(r.Err())
	}
}

// one asks of all the bytes b that, if do reads a thing of them, what it put of that are just those that were read.
func one(t *testing.T, name string, b []byte, do func(r *wire.Reader, w *wire.Writer)) {
	t.Helper()
	r := wire.NewReader(b)
	var w wire.Writer
	do(r, &w)
	if r.Err() == api.OK && !bytes.Equal(w.Bytes(), b[:r.At()]) {
		t.Errorf("%s of %v is written %v", name, b[:r.At()], w.Bytes())
	}
}

func TestWhatIsReadHasOneFormAlone(t *testing.T) {
	short := func(r *wire.Reader, w *wire.Writer) { w.Short(r.Short()) }
	signed := func(r *wire.Reader, w *wire.Writer) { w.Signed(r.Signed()) }
	text := func(r *wire.Reader, w *wire.Writer) { w.Text(r.Text()) }
	// The bytes between are all 128: so a number of each size ends in the two bytes that are gone through.
	for size := range 11 {
		for n := range 1 << 16 {
			b := append(bytes.Repeat([]byte{128}, size), byte(n), byte(n>>8))
			one(t, "Short", b, short)
			one(t, "Signed", b, signed)
			one(t, "Text", b, text)
		}
	}
}

func TestWhatIsCutIsShort(t *testing.T) {
	for _, n := range numbers() {
		b := put(func(w *wire.Writer) { w.Short(n) })
		for i := range b {
			refused(t, "Short", b[:i], api.ErrShort, func(r *wire.Reader) bool { return r.Short() == 0 })
		}
		b = put(func(w *wire.Writer) { w.Signed(n) })
		for i := range b {
			refused(t, "Signed", b[:i], api.ErrShort, func(r *wire.Reader) bool { return r.Signed() == 0 })
		}
	}
	b := put(func(w *wire.Writer) { w.Text(strings.Repeat("z", 200)) })
	for i := range b {
		refused(t, "Text", b[:i], api.ErrShort, func(r *wire.Reader) bool { return r.Text() == "" })
	}
}

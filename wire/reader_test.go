package wire_test

import (
	"bytes"
	"math"
	"testing"

	"hibernacle/api"
	"hibernacle/wire"
)

// calls is one of each call that reads, as what it tells and whether that is nothing.
var calls = []struct {
	name string
	do   func(r *wire.Reader) bool
}{
	{"Fixed(1)", func(r *wire.Reader) bool { return r.Fixed(1) == 0 }},
	{"Fixed(2)", func(r *wire.Reader) bool { return r.Fixed(2) == 0 }},
	{"Fixed(4)", func(r *wire.Reader) bool { return r.Fixed(4) == 0 }},
	{"Fixed(8)", func(r *wire.Reader) bool { return r.Fixed(8) == 0 }},
	{"Short()", func(r *wire.Reader) bool { return r.Short() == 0 }},
	{"Signed()", func(r *wire.Reader) bool { return r.Signed() == 0 }},
	{"Text()", func(r *wire.Reader) bool { return r.Text() == "" }},
	{"Raw(1)", func(r *wire.Reader) bool { return len(r.Raw(1)) == 0 }},
	{"Raw(-1)", func(r *wire.Reader) bool { return len(r.Raw(-1)) == 0 }},
	{"Raw(100)", func(r *wire.Reader) bool { return len(r.Raw(100)) == 0 }},
	{"List(9)", func(r *wire.Reader) bool { return r.List(9) == 0 }},
}

// refused asks of the bytes b, behind one byte more, that do tells nothing, that the error is e, and that the place stays.
func refused(t *testing.T, name string, b []byte, e api.Errno, do func(r *wire.Reader) bool) {
	t.Helper()
	r := wire.NewReader(append([]byte{42}, b...))
	r.Raw(1)
	if !do(r) {
		t.Errorf("%s of %v tells something", name, b)
	}
	if r.Err() != e || r.At() != 1 || r.Left() != len(b) {
		t.Errorf("%s of %v: error %d at %d, not %d at 1", name, b, r.Err(), r.At(), e)
	}
	if r.End() != e {
		t.Errorf("%s of %v: End %d, not %d", name, b, r.End(), e)
	}
}

// P1.2

func TestNewReaderIsAtThePlace0(t *testing.T) {
	for _, b := range [][]byte{nil, {}, {1, 2, 3}} {
		r := wire.NewReader(b)
		if r.At() != 0 || r.Left() != len(b) || r.Err() != api.OK {
			t.Errorf("%v: %d, %d, %d", b, r.At(), r.Left(), r.Err())
		}
	}
}

func TestFixedReadsTheLowestByteFirst(t *testing.T) {
	b := []byte{1, 2, 3, 4, 5, 6, 7, 248}
	for _, c := range []struct {
		n    int
		want uint64
	}{
		{1, 1}, {2, 0x0201}, {4, 0x04030201}, {8, 0xf807060504030201},
	} {
		r := wire.NewReader(b)
		if v := r.Fixed(c.n); v != c.want || r.At() != c.n || r.Err() != api.OK {
			t.Errorf("Fixed(%d): %#x, at %d", c.n, v, r.At())
		}
		refused(t, "Fixed", b[:c.n-1], api.ErrShort, func(r *wire.Reader) bool { return r.Fixed(c.n) == 0 })
	}
}

func TestFixedOfNoWidthReadsNothing(t *testing.T) {
	for _, n := range []int{math.MinInt, -1, 0, 3, 5, 6, 7, 9, math.MaxInt} {
		r := wire.NewReader([]byte{1, 2, 3, 4, 5, 6, 7, 8, 9, 10})
		if v := r.Fixed(n); v != 0 || r.At() != 0 {
			t.Errorf("Fixed(%d): %d, at %d", n, v, r.At())
		}
	}
}

func TestShortReads(t *testing.T) {
	for _, c := range []struct {
		b    []byte
		want int
		at   int
	}{
		{[]byte{0}, 0, 1},
		{[]byte{0, 0}, 0, 1},
		{[]byte{127, 128}, 127, 1},
		{[]byte{128, 1, 5}, 128, 2},
		{[]byte{172, 2}, 300, 2},
		{[]byte{128, 128, 1}, 16384, 3},
		{[]byte{128, 128, 128, 128, 128, 128, 128, 128, 1}, 1 << 56, 9},
		{[]byte{255, 255, 255, 255, 255, 255, 255, 255, 127, 255}, math.MaxInt, 9},
	} {
		r := wire.NewReader(c.b)
		if v := r.Short(); v != c.want || r.At() != c.at || r.Err() != api.OK {
			t.Errorf("Short of %v: %d, at %d, error %d", c.b, v, r.At(), r.Err())
		}
	}
}

// badShorts is bytes that do not begin with a short number.
var badShorts = []struct {
	b []byte
	e api.Errno
}{
	{nil, api.ErrShort},
	{[]byte{128}, api.ErrShort},
	{[]byte{255, 255}, api.ErrShort},
	{[]byte{128, 128, 128, 128, 128, 128, 128, 128}, api.ErrShort},
	{[]byte{128, 0}, api.ErrForm},
	{[]byte{255, 0, 1}, api.ErrForm},
	{[]byte{255, 128, 0}, api.ErrForm},
	{[]byte{255, 255, 255, 255, 255, 255, 255, 255, 0}, api.ErrForm},
	{[]byte{255, 255, 255, 255, 255, 255, 255, 255, 128}, api.ErrForm},
	{[]byte{255, 255, 255, 255, 255, 255, 255, 255, 255}, api.ErrForm},
	{[]byte{128, 128, 128, 128, 128, 128, 128, 128, 129, 1}, api.ErrForm},
	{[]byte{128, 128, 128, 128, 128, 128, 128, 128, 128, 128, 1}, api.ErrForm},
}

func TestWhatBeginsWithNoShortNumberIsRefused(t *testing.T) {
	for _, c := range badShorts {
		refused(t, "Short", c.b, c.e, func(r *wire.Reader) bool { return r.Short() == 0 })
		refused(t, "Signed", c.b, c.e, func(r *wire.Reader) bool { return r.Signed() == 0 })
		refused(t, "Text", c.b, c.e, func(r *wire.Reader) bool { return r.Text() == "" })
		refused(t, "List", c.b, c.e, func(r *wire.Reader) bool { return r.List(math.MaxInt) == 0 })
		refused(t, "List", c.b, c.e, func(r *wire.Reader) bool { return r.List(-1) == 0 })
	}
}

func TestSignedReads(t *testing.T) {
	for _, c := range []struct {
		b    []byte
		want int
	}{
		{[]byte{0}, 0},
		{[]byte{1}, -1},
		{[]byte{2}, 1},
		{[]byte{127}, -64},
		{[]byte{128, 1}, 64},
		{[]byte{254, 255, 255, 255, 255, 255, 255, 255, 63}, 1<<61 - 1},
		{[]byte{255, 255, 255, 255, 255, 255, 255, 255, 63}, -1 << 61},
	} {
		r := wire.NewReader(append(c.b, 200))
		if v := r.Signed(); v != c.want || r.At() != len(c.b) || r.Err() != api.OK {
			t.Errorf("Signed of %v: %d, at %d, error %d", c.b, v, r.At(), r.Err())
		}
	}
	for _, b := range [][]byte{
		{128, 128, 128, 128, 128, 128, 128, 128, 64},
		{129, 128, 128, 128, 128, 128, 128, 128, 64},
		{255, 255, 255, 255, 255, 255, 255, 255, 127},
	} {
		refused(t, "Signed", b, api.ErrForm, func(r *wire.Reader) bool { return r.Signed() == 0 })
	}
}

func TestTextReads(t *testing.T) {
	long := bytes.Repeat([]byte{9}, 300)
	for _, c := range []struct {
		b    []byte
		want string
		at   int
	}{
		{[]byte{0, 1}, "", 1},
		{[]byte{1, 'a'}, "a", 2},
		{[]byte{2, 255, 0, 7}, "\xff\x00", 3},
		{append([]byte{172, 2}, long...), string(long), 302},
	} {
		r := wire.NewReader(c.b)
		if s := r.Text(); s != c.want || r.At() != c.at || r.Err() != api.OK {
			t.Errorf("Text of %v: %q, at %d, error %d", c.b, s, r.At(), r.Err())
		}
	}
	for _, b := range [][]byte{
		{1},
		{3, 1, 2},
		append([]byte{172, 2}, long[:299]...),
		{255, 255, 255, 255, 255, 255, 255, 255, 127, 1, 2},
	} {
		refused(t, "Text", b, api.ErrShort, func(r *wire.Reader) bool { return r.Text() == "" })
	}
}

func TestRawReads(t *testing.T) {
	b := []byte{5, 6, 7}
	for _, c := range []struct {
		n    int
		want []byte
	}{
		{math.MinInt, nil}, {-1, nil}, {0, nil}, {1, []byte{5}}, {2, []byte{5, 6}}, {3, b},
	} {
		r := wire.NewReader(b)
		if got := r.Raw(c.n); !bytes.Equal(got, c.want) || r.At() != len(c.want) || r.Err() != api.OK {
			t.Errorf("Raw(%d): %v, at %d, error %d", c.n, got, r.At(), r.Err())
		}
	}
	for _, n := range []int{4, 100, math.MaxInt} {
		refused(t, "Raw", b, api.ErrShort, func(r *wire.Reader) bool { return len(r.Raw(n)) == 0 })
	}
	r := wire.NewReader(nil)
	if got := r.Raw(0); len(got) != 0 || r.End() != api.OK {
		t.Errorf("Raw(0) of none: %v, %d", got, r.End())
	}
}

func TestListReads(t *testing.T) {
	many := append([]byte{172, 2}, make([]byte, 300)...)
	for _, c := range []struct {
		b    []byte
		most int
		want int
		at   int
	}{
		{[]byte{0}, 0, 0, 1},
		{[]byte{0}, 9, 0, 1},
		{[]byte{2, 7, 8}, 2, 2, 1},
		{[]byte{2, 7, 8, 9}, math.MaxInt, 2, 1},
		{many, 300, 300, 2},
	} {
		r := wire.NewReader(c.b)
		if n := r.List(c.most); n != c.want || r.At() != c.at || r.Err() != api.OK {
			t.Errorf("List(%d) of %v: %d, at %d, error %d", c.most, c.b, n, r.At(), r.Err())
		}
	}
	for _, c := range []struct {
		b    []byte
		most int
		e    api.Errno
	}{
		{[]byte{0}, -1, api.ErrForm},
		{[]byte{0}, math.MinInt, api.ErrForm},
		{[]byte{5, 1, 2, 3, 4, 5}, 4, api.ErrForm},
		{[]byte{5, 1}, 4, api.ErrForm},
		{[]byte{5}, 5, api.ErrShort},
		{[]byte{5, 1, 2, 3, 4}, 5, api.ErrShort},
		{many[:301], 300, api.ErrShort},
		{many, 299, api.ErrForm},
		{[]byte{255, 255, 255, 255, 255, 255, 255, 255, 127, 1}, math.MaxInt, api.ErrShort},
	} {
		refused(t, "List", c.b, c.e, func(r *wire.Reader) bool { return r.List(c.most) == 0 })
	}
}

func TestEachCallReadsBehindTheOneAhead(t *testing.T) {
	r := wire.NewReader([]byte{1, 2, 172, 2, 3, 2, 'o', 'k', 9, 8, 1, 7})
	if v := r.Fixed(2); v != 0x0201 || r.At() != 2 || r.Left() != 10 {
		t.Error("Fixed", v, r.At(), r.Left())
	}
	if v := r.Short(); v != 300 || r.At() != 4 || r.Left() != 8 {
		t.Error("Short", v, r.At(), r.Left())
	}
	if v := r.Signed(); v != -2 || r.At() != 5 || r.Left() != 7 {
		t.Error("Signed", v, r.At(), r.Left())
	}
	if v := r.Text(); v != "ok" || r.At() != 8 || r.Left() != 4 {
		t.Error("Text", v, r.At(), r.Left())
	}
	if v := r.Raw(2); !bytes.Equal(v, []byte{9, 8}) || r.At() != 10 || r.Left() != 2 {
		t.Error("Raw", v, r.At(), r.Left())
	}
	if v := r.List(1); v != 1 || r.At() != 11 || r.Left() != 1 {
		t.Error("List", v, r.At(), r.Left())
	}
	if r.End() != api.ErrForm {
		t.Error("End", r.End())
	}
}

func TestWithAnErrorNothingIsReadAnyMore(t *testing.T) {
	for _, e := range []api.Errno{api.ErrShort, api.ErrForm, api.ErrCross, -5} {
		for _, c := range calls {
			r := wire.NewReader([]byte{3, 1, 1, 1, 1, 1, 1, 1, 1, 1, 1})
			r.Raw(1)
			r.Fail(e)
			if !c.do(r) {
				t.Errorf("%s tells something, with the error %d", c.name, e)
			}
			if r.Err() != e || r.At() != 1 || r.Left() != 10 {
				t.Errorf("%s, with the error %d: %d, at %d", c.name, e, r.Err(), r.At())
			}
		}
	}
}

func TestTheFirstErrorStays(t *testing.T) {
	r := wire.NewReader([]byte{128, 0})
	r.Fixed(4)
	r.Short()
	r.Fail(api.ErrCross)
	if r.Err() != api.ErrShort || r.End() != api.ErrShort || r.At() != 0 {
		t.Error(r.Err(), r.End(), r.At())
	}
	r = wire.NewReader([]byte{128, 0})
	r.Short()
	r.Fixed(4)
	if r.Err() != api.ErrForm || r.End() != api.ErrForm || r.At() != 0 {
		t.Error(r.Err(), r.End(), r.At())
	}
}

// P1.3

func TestFailIsTheErrorIfThereIsNone(t *testing.T) {
	r := wire.NewReader([]byte{1})
	r.Fail(api.OK)
	if r.Err() != api.OK || r.Short() != 1 {
		t.Error("Fail of OK is an error")
	}
	r.Fail(api.ErrArg)
	r.Fail(api.ErrSum)
	r.Fail(api.OK)
	if r.Err() != api.ErrArg || r.End() != api.ErrArg {
		t.Error(r.Err(), r.End())
	}
}

func TestEndTellsWhetherAllWasRead(t *testing.T) {
	r := wire.NewReader(nil)
	if r.End() != api.OK || r.Err() != api.OK {
		t.Error("of none:", r.Err())
	}
	r = wire.NewReader([]byte{1, 2})
	r.Short()
	r.Short()
	if r.End() != api.OK || r.Err() != api.OK || r.Left() != 0 || r.At() != 2 {
		t.Error("all read:", r.Err(), r.Left(), r.At())
	}
	r = wire.NewReader([]byte{1, 2})
	r.Short()
	if r.Err() != api.OK || r.End() != api.ErrForm || r.Err() != api.ErrForm {
		t.Error("one left:", r.Err())
	}
	if r.Short() != 0 || r.At() != 1 || r.Left() != 1 || r.End() != api.ErrForm {
		t.Error("one left, read on:", r.Err(), r.At())
	}
}

// R4

func TestReaderSharesNoMemory(t *testing.T) {
	b := []byte{1, 2, 3, 4}
	r := wire.NewReader(b)
	b[0] = 99
	first := r.Raw(2)
	if !bytes.Equal(first, []byte{1, 2}) {
		t.Errorf("what was handed in is kept: %v", first)
	}
	first[0] = 77
	_ = append(first, 66)
	if v := r.Fixed(2); v != 0x0403 {
		t.Errorf("what was answered is the reader's: %#x", v)
	}
	if !bytes.Equal(b, []byte{99, 2, 3, 4}) {
		t.Errorf("what was handed in is changed: %v", b)
	}
}

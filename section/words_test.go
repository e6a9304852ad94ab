package section_test

import (
	"bytes"
	"math"
	"math/rand"
	"slices"
	"testing"

	"hibernacle/api"
	"hibernacle/section"
)

// P16.2

// kinds is Kinds within a byte, and out of it: Find and Put ask no bounds.
var kinds = []int{0, 1, 2, 255, 256, 257, -1, 1 << 32, 1<<32 + 1, math.MinInt, math.MaxInt}

// isFound asks that Find tells that Body.
func isFound(t *testing.T, l []api.Section, kind int, want ...byte) {
	t.Helper()
	if b, ok := section.Find(l, kind); !ok || !bytes.Equal(b, want) {
		t.Errorf("Find of %d in %v: %v, %v, not %v", kind, l, b, ok, want)
	}
}

// isMissing asks that Find tells none.
func isMissing(t *testing.T, l []api.Section, kind int) {
	t.Helper()
	if b, ok := section.Find(l, kind); ok || len(b) != 0 {
		t.Errorf("Find of %d in %v: %v, %v", kind, l, b, ok)
	}
}

func TestFindTellsTheFirstOfThatKind(t *testing.T) {
	l := list(of(3, 30), of(5, 50, 51), of(3, 31), of(0), of(5, 52), of(0, 1))
	isFound(t, l, 3, 30)
	isFound(t, l, 5, 50, 51)
	isFound(t, l, 0)
	isFound(t, l[1:], 3, 31)
	isFound(t, l[2:], 5, 52)
	isFound(t, l[4:], 0, 1)
	for _, kind := range []int{1, 2, 4, 6, 255, 256, 259, -1, -3, 1<<32 + 3, math.MinInt, math.MaxInt} {
		isMissing(t, l, kind)
	}
	isMissing(t, l[3:], 3)
	isMissing(t, nil, 0)
	isMissing(t, list(), 0)
	many := empties(300)
	many[299].Body = row(7)
	isFound(t, many, 299, 7)
	for _, kind := range kinds {
		isFound(t, list(of(kind, 4)), kind, 4)
		isMissing(t, list(of(kind, 4)), kind+1)
	}
}

// isPut asks that Put tells these sections.
func isPut(t *testing.T, l []api.Section, kind int, body []byte, want ...api.Section) {
	t.Helper()
	isSections(t, "Put", section.Put(l, kind, body), want)
	isFound(t, section.Put(l, kind, body), kind, body...)
}

func TestPutChangesTheFirstOfThatKind(t *testing.T) {
	l := list(of(3, 30), of(5, 50, 51), of(3, 31), of(0))
	isPut(t, l, 3, row(1, 2), of(3, 1, 2), of(5, 50, 51), of(3, 31), of(0))
	isPut(t, l, 5, row(1), of(3, 30), of(5, 1), of(3, 31), of(0))
	isPut(t, l, 5, nil, of(3, 30), of(5), of(3, 31), of(0))
	isPut(t, l, 0, row(9), of(3, 30), of(5, 50, 51), of(3, 31), of(0, 9))
	isPut(t, l[1:], 3, row(8), of(5, 50, 51), of(3, 8), of(0))
}

func TestPutOfAnotherKindStandsBehindAll(t *testing.T) {
	l := list(of(3, 30), of(5, 50, 51))
	for _, kind := range kinds {
		isPut(t, l, kind, row(1, 2), of(3, 30), of(5, 50, 51), of(kind, 1, 2))
		isPut(t, l, kind, nil, of(3, 30), of(5, 50, 51), of(kind))
		isPut(t, nil, kind, row(7), of(kind, 7))
		isPut(t, list(), kind, nil, of(kind))
		isPut(t, list(of(kind, 7)), kind, row(8), of(kind, 8))
	}
	isPut(t, empties(16), 16, nil, empties(17)...)
	isPut(t, empties(40), 40, nil, empties(41)...)
	great := make([]byte, most+1)
	if got := section.Put(l, 9, great); !equal(got, list(l[0], l[1], of(9, great...))) {
		t.Error("a great Body is put otherwise")
	}
}

func TestFindAndPutOfAnySections(t *testing.T) {
	r := rand.New(rand.NewSource(162))
	for range 2000 {
		l, kind, body := anySections(r), r.Intn(6), some(r.Int63(), r.Intn(5))
		at := slices.IndexFunc(l, func(s api.Section) bool { return s.Kind == kind })
		want := slices.Clone(l)
		if at < 0 {
			isMissing(t, l, kind)
			want = append(want, of(kind, body...))
		} else {
			isFound(t, l, kind, l[at].Body...)
			want[at].Body = body
		}
		isPut(t, l, kind, body, want...)
	}
}

func TestSpansByHand(t *testing.T) {
	for _, c := range []struct {
		name string
		b    []byte
		want [][2]int
	}{
		{"none", sealed(mark(3, 0)...), nil},
		{"one of none", plainWrite(3, list(of(1))), [][2]int{{8, 8}}},
		{"three", sealed(three()...), [][2]int{{12, 15}, {19, 19}, {23, 24}}},
		{"a size of two bytes", plainWrite(3, list(of(1, make([]byte, 300)...), of(2, 5))), [][2]int{{11, 311}, {315, 316}}},
		{"a great one", plainWrite(3, list(of(1, 5), of(1, make([]byte, most)...))), [][2]int{{12, 13}, {17, 17 + most}}},
	} {
		if got, e := section.Spans(c.b); e != api.OK || !slices.Equal(got, c.want) {
			t.Errorf("%s: %v, error %d, not %v", c.name, got, e, c.want)
		}
	}
}

func TestBodiesStandWhereSpansTell(t *testing.T) {
	r := rand.New(rand.NewSource(1622))
	for range 2000 {
		l := anySections(r)
		b := plainWrite(r.Intn(256), l)
		spans, e := section.Spans(b)
		if e != api.OK || len(spans) != len(l) {
			t.Fatalf("%v: %v, error %d", l, spans, e)
		}
		for i, s := range spans {
			if s[0] > s[1] || !bytes.Equal(b[s[0]:s[1]], l[i].Body) {
				t.Errorf("%v does not stand at %v", l[i], s)
			}
			end := len(b) - 4
			if i+1 < len(spans) {
				end = spans[i+1][0]
			}
			if s[1]+4 != end {
				t.Errorf("behind %v: %d, not its sum alone", s, end)
			}
		}
	}
}

// isSame asks that Same tells so, either way round.
func isSame(t *testing.T, a, b []api.Section, want bool) {
	t.Helper()
	if section.Same(a, b) != want || section.Same(b, a) != want {
		t.Errorf("%v and %v are the same: not %v", a, b, want)
	}
}

func TestSame(t *testing.T) {
	l := list(of(3, 30), of(5, 50, 51), of(0))
	isSame(t, nil, nil, true)
	isSame(t, nil, list(), true)
	isSame(t, l, list(of(3, 30), of(5, 50, 51), api.Section{Body: []byte{}}), true)
	isSame(t, list(of(0)), nil, false)
	for i := range l {
		isSame(t, l, l[:i], false)
		isSame(t, l, l[i+1:], false)
		for _, kind := range kinds {
			other := slices.Clone(l)
			other[i].Kind = kind
			isSame(t, l, other, kind == l[i].Kind)
		}
		other := slices.Clone(l)
		other[i].Body = cat(l[i].Body, row(0))
		isSame(t, l, other, false)
	}
	isSame(t, l, list(of(3, 31), of(5, 50, 51), of(0)), false)
	isSame(t, l, list(of(3, 30), of(5, 49, 51), of(0)), false)
	isSame(t, l, list(of(3, 30), of(5, 50, 52), of(0)), false)
	isSame(t, l, list(of(3, 30), of(5, 51, 50), of(0)), false)
	isSame(t, l, list(of(3, 30), of(5, 50), of(0)), false)
	// They are the same in one row alone, and what ends one does not begin the next one.
	isSame(t, l, list(l[1], l[0], l[2]), false)
	isSame(t, l, list(l[0], l[2], l[1]), false)
	isSame(t, list(of(1, 2, 3), of(1)), list(of(1, 2), of(1, 3)), false)
	isSame(t, list(of(1), of(1)), list(of(1)), false)
}

func TestSameOfAnySections(t *testing.T) {
	r := rand.New(rand.NewSource(1623))
	for range 2000 {
		a, b := anySections(r), anySections(r)
		isSame(t, a, b, equal(a, b))
		isSame(t, a, copied(a), true)
	}
}

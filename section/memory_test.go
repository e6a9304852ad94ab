package section_test

import (
	"bytes"
	"math/rand"
	"slices"
	"testing"

	"hibernacle/api"
	"hibernacle/section"
)

// R4, of what is handed in, and answered

// copied is l in memory of its own. It leans on nothing of the package.
func copied(l []api.Section) []api.Section {
	c := slices.Clone(l)
	for i := range c {
		c[i].Body = slices.Clone(c[i].Body)
	}
	return c
}

// over writes over all of b, its spare room too.
func over(b []byte) {
	b = b[:cap(b)]
	for i := range b {
		b[i] ^= 255
	}
}

// overAll writes over all Bodies and sections of l, their spare room too.
func overAll(l []api.Section) {
	for _, s := range l {
		over(s.Body)
	}
	l = l[:cap(l)]
	for i := range l {
		l[i] = of(-77, 77)
	}
}

// roomy is l, with spare room behind the list and behind each Body, in which nothing may be written.
func roomy(l []api.Section) []api.Section {
	c := make([]api.Section, len(l), len(l)+3)
	for i, s := range l {
		c[i] = api.Section{Kind: s.Kind, Body: append(make([]byte, 0, len(s.Body)+5), s.Body...)}
	}
	return c
}

// isKept asks that roomy's answer is as it was, spare room too.
func isKept(t *testing.T, name string, l, want []api.Section) {
	t.Helper()
	isSections(t, name, l, want)
	for i, s := range l[:cap(l)] {
		if i >= len(l) && (s.Kind != 0 || s.Body != nil) {
			t.Errorf("%s: %v stands in the room behind the list", name, s)
		}
		if room := s.Body[len(s.Body):cap(s.Body)]; bytes.ContainsFunc(room, func(r rune) bool { return r != 0 }) {
			t.Errorf("%s: %v stands in the room behind a Body", name, room)
		}
	}
}

func TestWhatIsHandedInStaysAsItWas(t *testing.T) {
	r := rand.New(rand.NewSource(4))
	for range 300 {
		was := anySections(r)
		l, other := roomy(was), roomy(was)
		body := append(make([]byte, 0, 9), 1, 2, 3)
		section.May(3, l)
		file, _ := section.Write(3, l)
		section.Find(l, r.Intn(4))
		section.Put(l, r.Intn(4), body)
		section.Put(l, 999, body)
		section.Same(l, other)
		isKept(t, "handed in", l, was)
		isKept(t, "handed in", other, was)
		if !bytes.Equal(body[:9], row(1, 2, 3, 0, 0, 0, 0, 0, 0)) {
			t.Errorf("the Body that was put is %v", body[:9])
		}
		b := append(make([]byte, 0, len(file)+8), file...)
		section.Read(b)
		section.Spans(b)
		if !bytes.Equal(b[:cap(b)], cat(file, make([]byte, 8))) {
			t.Errorf("the file is %v, not %v", b[:cap(b)], file)
		}
	}
}

func TestAnswersShareNoMemoryWithWhatWasHandedIn(t *testing.T) {
	r := rand.New(rand.NewSource(44))
	for range 300 {
		l, kind, body := anySections(r), r.Intn(6), some(r.Int63(), 5)
		was, wasBody := copied(l), slices.Clone(body)
		file, _ := section.Write(3, l)
		wasFile := slices.Clone(file)
		_, read, _ := section.Read(file)
		spans, _ := section.Spans(file)
		found, _ := section.Find(l, kind)
		wasFound := slices.Clone(found)
		put := section.Put(l, kind, body)
		wasPut := copied(put)
		// What was answered is written over: what was handed in stays.
		over(found)
		overAll(read)
		overAll(put)
		clear(spans[:cap(spans)])
		isSections(t, "what was handed in", l, was)
		if !bytes.Equal(body, wasBody) || !bytes.Equal(file, wasFile) {
			t.Errorf("%v, not %v; %v, not %v", body, wasBody, file, wasFile)
		}
		// What was handed in is written over: what was answered stays.
		_, read, _ = section.Read(file)
		found, _ = section.Find(l, kind)
		put = section.Put(l, kind, body)
		again, _ := section.Write(3, l)
		overAll(l)
		over(body)
		over(file)
		isSections(t, "Read's answer", read, was)
		isSections(t, "Put's answer", put, wasPut)
		if !bytes.Equal(found, wasFound) || !bytes.Equal(again, wasFile) {
			t.Errorf("%v, not %v; %v, not %v", found, wasFound, again, wasFile)
		}
	}
}

// isApart asks that each Body of l is its own: what is written over one, or behind it, changes no other one.
func isApart(t *testing.T, name string, l []api.Section) {
	t.Helper()
	for i := range l {
		was := copied(l)
		over(l[i].Body)
		l[i].Body = was[i].Body
		isSections(t, name, l, was)
	}
}

func TestBodiesOfOneAnswerAreApart(t *testing.T) {
	r := rand.New(rand.NewSource(444))
	one := some(9, 20)
	for range 200 {
		l := anySections(r)
		_, read, _ := section.Read(plainWrite(3, l))
		isApart(t, "Read", read)
		isApart(t, "Put", section.Put(l, r.Intn(6), one))
	}
	// Bodies that lie in one array, or are one, are handed out in memory of their own.
	within := list(of(1, one[:4]...), of(2, one[2:9]...), of(3, one[9:]...), of(4, one...))
	for kind := range 6 {
		put := section.Put(within, kind, one)
		isApart(t, "Put of Bodies in one array", put)
	}
	isApart(t, "Read of one Body", func() []api.Section {
		_, l, _ := section.Read(plainWrite(3, slices.Repeat(list(of(1, 2, 3)), 16)))
		return l
	}())
}

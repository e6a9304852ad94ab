package code_test

import (
	"bytes"
	"math/rand"
	"reflect"
	"testing"

	"hibernacle/api"
	"hibernacle/code"
	"hibernacle/wire"
)

// P3.1: a program's bytes

// refused asks that b is read as no program, with the error e.
func refused(t *testing.T, name string, b []byte, e api.Errno) {
	t.Helper()
	ahead := bytes.Clone(b)
	p, got := code.Read(b)
	if got != e {
		t.Errorf("%s: Read of %v: error %d, not %d", name, b, got, e)
	}
	if !reflect.DeepEqual(p, api.Program{}) {
		t.Errorf("%s: Read of %v: %v beside an error", name, b, p)
	}
	if !bytes.Equal(b, ahead) {
		t.Errorf("%s: the bytes were changed", name)
	}
}

// read asks that b is read as p.
func read(t *testing.T, name string, b []byte, p api.Program) {
	t.Helper()
	ahead := bytes.Clone(b)
	got, e := code.Read(b)
	if e != api.OK || !code.Same(got, p) {
		t.Errorf("%s: Read of %v: %v, error %d", name, b, got, e)
	}
	if !bytes.Equal(b, ahead) {
		t.Errorf("%s: the bytes were changed", name)
	}
}

func TestWriteAndReadByHand(t *testing.T) {
	for _, c := range []struct {
		name string
		p    api.Program
		b    []byte
	}{
		{"least", least(), []byte{1, 0, 0, 0, 0, 0, 0, 0, 1}},
		{"whole", whole(), wholeBytes()},
	} {
		b, e := code.Write(c.p)
		if e != api.OK || !bytes.Equal(b, c.b) {
			t.Errorf("%s: %v, %d", c.name, b, e)
		}
		read(t, c.name, c.b, c.p)
	}
}

func TestReadTellsEachField(t *testing.T) {
	p, e := code.Read(wholeBytes())
	if e != api.OK {
		t.Fatal(e)
	}
	want := whole()
	for i, f := range want.Funcs {
		if p.Funcs[i].Locals != f.Locals || len(p.Funcs[i].Code) != len(f.Code) {
			t.Errorf("function %d: %v", i, p.Funcs[i])
		}
		for j, in := range f.Code {
			if p.Funcs[i].Code[j] != in {
				t.Errorf("function %d, %d: %v, not %v", i, j, p.Funcs[i].Code[j], in)
			}
		}
	}
	p.Funcs, want.Funcs = nil, nil
	if !reflect.DeepEqual(p, want) {
		t.Errorf("%v, not %v", p, want)
	}
}

func TestWhatIsCutIsShort(t *testing.T) {
	b := wholeBytes()
	for n := range b {
		refused(t, "cut", b[:n], api.ErrShort)
	}
	refused(t, "nil", nil, api.ErrShort)
}

func TestWhatIsLeftIsOfNoForm(t *testing.T) {
	refused(t, "least", []byte{1, 0, 0, 0, 0, 0, 0, 0, 1, 0}, api.ErrForm)
	refused(t, "whole", append(wholeBytes(), 255), api.ErrForm)
	refused(t, "what may not be", []byte{0, 0, 0, 0, 0, 0, 0, 0}, api.ErrForm)
}

func TestNumbersThatTellHowManyAreReadAsLists(t *testing.T) {
	fill := bytes.Repeat([]byte{0}, 300)
	for _, c := range []struct {
		name  string
		ahead []byte
		most  byte
	}{
		{"functions", nil, 16},
		{"instructions", []byte{1, 0}, 64},
		{"instructions of a later one", []byte{2, 0, 0, 0}, 64},
		{"conditions", []byte{1, 0, 0, 1}, 8},
		{"semaphores", []byte{1, 0, 0, 0, 0}, 8},
		{"channels", []byte{1, 0, 0, 0, 0, 0}, 8},
		{"choices", []byte{1, 0, 0, 0, 0, 0, 0}, 8},
		{"a choice's channels", []byte{1, 0, 0, 0, 0, 0, 1, 0, 1}, 8},
	} {
		for _, n := range []byte{c.most + 1, c.most + 2, 127} {
			b := append(bytes.Clone(c.ahead), n)
			refused(t, c.name+", none behind", b, api.ErrForm)
			refused(t, c.name+", many behind", append(b, fill...), api.ErrForm)
		}
		b := append(bytes.Clone(c.ahead), c.most)
		refused(t, c.name+", too few behind", append(b, fill[:c.most-1]...), api.ErrShort)
		// What is more than all that is left is told ahead of what stands there: 128, 0 is of no form.
		refused(t, c.name+", few of no form behind", append(b, 128, 0), api.ErrShort)
		refused(t, c.name+" in two bytes", append(append(bytes.Clone(c.ahead), 128|c.most, 0), fill...), api.ErrForm)
	}
}

func TestOtherNumbersAreReadAsTheyAre(t *testing.T) {
	for _, c := range []struct {
		name          string
		ahead, behind []byte
		bad           []int
	}{
		{"Locals", []byte{1}, []byte{0, 0, 0, 0, 0, 0, 1}, []int{9, 16, 300, 1 << 40}},
		{"Mutexes", []byte{1, 0, 0}, []byte{0, 0, 0, 0, 1}, []int{9, 300, 1 << 40}},
		{"a condition's mutex", []byte{1, 0, 0, 2, 1}, []byte{0, 0, 0, 1}, []int{2, 9, 300}},
		{"a count", []byte{1, 0, 0, 0, 0, 1}, []byte{0, 0, 1}, []int{101, 300, 1 << 40}},
		{"places", []byte{1, 0, 0, 0, 0, 0, 1}, []byte{0, 1}, []int{9, 300}},
		{"a choice's channel", []byte{1, 0, 0, 0, 0, 0, 1, 0, 1, 1}, []byte{1}, []int{1, 8, 300}},
		{"Threads", []byte{1, 0, 0, 0, 0, 0, 0, 0}, nil, []int{0, 33, 300}},
	} {
		for _, n := range c.bad {
			var w wire.Writer
			w.Raw(c.ahead...)
			w.Short(n)
			w.Raw(c.behind...)
			refused(t, c.name, w.Bytes(), api.ErrArg)
			refused(t, c.name+", one byte more", append(w.Bytes(), 0), api.ErrForm)
			if len(c.behind) > 0 {
				refused(t, c.name+", one byte less", w.Bytes()[:w.Len()-1], api.ErrShort)
			}
		}
		refused(t, c.name+" in two bytes", append(append(bytes.Clone(c.ahead), 128, 0), append(bytes.Clone(c.behind), 0, 0)...), api.ErrForm)
	}
}

func TestWhatIsReadAndMayNotBe(t *testing.T) {
	for _, c := range []struct {
		name string
		b    []byte
	}{
		{"no functions", []byte{0, 0, 0, 0, 0, 0, 1}},
		{"an Op that is none", []byte{1, 0, 1, 27, 0, 0, 0, 0, 0, 0, 1}},
		{"an Op that is none", []byte{1, 0, 1, 255, 0, 0, 0, 0, 0, 0, 1}},
		{"an A that is not asked", []byte{1, 0, 1, 1, 2, 0, 0, 0, 0, 0, 1}},
		{"an A below 0", []byte{1, 0, 1, 7, 1, 0, 0, 0, 0, 0, 1}},
		{"an A above what there is", []byte{1, 0, 1, 7, 4, 0, 0, 0, 0, 0, 1}},
		{"a number that is not kept", []byte{1, 0, 1, 0, 0x82, 0x80, 0x80, 0x80, 8, 0, 0, 0, 0, 0, 1}},
		{"a choice of none", []byte{1, 0, 0, 0, 0, 0, 1, 0, 1, 0, 1}},
		{"a choice of one twice", []byte{1, 0, 0, 0, 0, 0, 1, 0, 1, 2, 0, 0, 1}},
	} {
		refused(t, c.name, c.b, api.ErrArg)
	}
	// Beside those: the nearest ones that may be.
	read(t, "a jump", []byte{1, 0, 1, 7, 2, 0, 0, 0, 0, 0, 1}, leastWith(func(p *api.Program) {
		p.Funcs[0].Code = []api.Instr{{Op: api.Jump, A: 1}}
	}))
	read(t, "exit", []byte{1, 0, 1, 26, 0, 0, 0, 0, 0, 0, 1}, leastWith(func(p *api.Program) {
		p.Funcs[0].Code = []api.Instr{{Op: api.Exit}}
	}))
}

func TestTheFirstErrorOfTheReadingIsTold(t *testing.T) {
	// 65 instructions are of no form, ahead of bytes that there are not; an Op that is none is told behind both.
	refused(t, "form, then short", []byte{1, 0, 65}, api.ErrForm)
	refused(t, "short, then form", []byte{1, 0, 2, 0}, api.ErrShort)
	refused(t, "arg, then short", []byte{1, 0, 1, 27, 0, 0}, api.ErrShort)
	refused(t, "arg, then form", []byte{1, 0, 1, 27, 0, 0, 0, 0, 0, 9, 1}, api.ErrForm)
	refused(t, "an A of no form", []byte{1, 0, 1, 0, 128, 0, 0, 0, 0, 0, 0, 1}, api.ErrForm)
	refused(t, "an A beyond signed numbers", []byte{1, 0, 1, 0, 128, 128, 128, 128, 128, 128, 128, 128, 64, 0, 0, 0, 0, 0, 1}, api.ErrForm)
}

func TestWhatIsAnsweredIsNewMemory(t *testing.T) {
	a, _ := code.Write(whole())
	for i := range a {
		a[i] = 99
	}
	if b, _ := code.Write(whole()); !bytes.Equal(b, wholeBytes()) {
		t.Error("two answers share memory")
	}
	b := wholeBytes()
	p, _ := code.Read(b)
	for i := range b {
		b[i] = 99
	}
	if !code.Same(p, whole()) {
		t.Error("the bytes are kept")
	}
}

// P3.3

func TestProgramsAreReadOfTheirBytes(t *testing.T) {
	r := rand.New(rand.NewSource(33))
	for range 2000 {
		p := anyProgram(r)
		b, e := code.Write(p)
		if e != api.OK {
			t.Fatalf("%v: %d", p, e)
		}
		q, e := code.Read(b)
		if e != api.OK || !code.Same(p, q) {
			t.Fatalf("%v is read %v, %d", p, q, e)
		}
	}
}

// its asks that b, if it is read, is the bytes of what it is read as; and that no other errors are told than those of the chapter.
func its(t *testing.T, b []byte) {
	t.Helper()
	p, e := code.Read(b)
	switch e {
	case api.OK:
		if !code.May(p) {
			t.Fatalf("%v is read, and may not be", b)
		}
		if again, e := code.Write(p); e != api.OK || !bytes.Equal(again, b) {
			t.Fatalf("%v is read, and written %v", b, again)
		}
	case api.ErrShort, api.ErrForm, api.ErrArg:
	default:
		t.Fatalf("%v: error %d", b, e)
	}
}

func TestBytesThatAreReadAreAPrograms(t *testing.T) {
	r := rand.New(rand.NewSource(333))
	for _, b := range [][]byte{wholeBytes(), {1, 0, 0, 0, 0, 0, 0, 0, 1}} {
		for i := range b {
			for v := range 256 {
				x := bytes.Clone(b)
				x[i] = byte(v)
				its(t, x)
				its(t, append(append(bytes.Clone(b[:i]), byte(v)), b[i:]...))
			}
			its(t, append(bytes.Clone(b[:i]), b[i+1:]...))
		}
	}
	for range 20000 {
		b := make([]byte, r.Intn(24))
		for i := range b {
			b[i] = byte(r.Intn(4))
		}
		its(t, b)
	}
}

package nonce_test

import (
	"bytes"
	"math"
	"slices"
	"testing"

	"oubliette/api"
	"oubliette/nonce"
)

// Numbers of a Nonce, at their ends and at each byte's end.
var allowed = []int{0, 1, 2, 254, 255, 256, 257, 258, 1<<16 - 1, 1 << 16, 1<<24 - 1, 1 << 24, 1<<31 - 1, 1 << 31, 1<<32 - 1, 1 << 32, nonce.Most - 1, nonce.Most}

// Numbers that no Nonce has; the slab beneath would write some of them, -1 among these.
var outside = []int{-1, -2, -256, math.MinInt, math.MinInt + 1, nonce.Most + 1, nonce.Most + 255, 1 << 41, 1<<48 - 2, 1<<48 - 1, 1 << 48, 1<<48 + 1, math.MaxInt}

func made(t *testing.T, gen, count, most int) *nonce.Source {
	t.Helper()
	s := nonce.At(gen, count, most)
	if s == nil {
		t.Fatalf("At(%d, %d, %d): nil", gen, count, most)
	}
	return s
}

// wantSource asks all that a source tells without going on.
func wantSource(t *testing.T, what string, s *nonce.Source, next nonce.Nonce, left int) {
	t.Helper()
	if s.Nonce != next || s.Gen != next.Gen || s.Count != next.Count || s.Left() != left {
		t.Errorf("%s: %v, left %d; want %v, %d", what, s.Nonce, s.Left(), next, left)
	}
}

func wantNext(t *testing.T, s *nonce.Source, want nonce.Nonce) {
	t.Helper()
	if n, e := s.Next(); n != want || e != api.OK {
		t.Errorf("Next: %v, %d; want %v", n, e, want)
	}
}

func wantExhausted(t *testing.T, s *nonce.Source) {
	t.Helper()
	before := s.Nonce
	for range 3 {
		if n, e := s.Next(); n != (nonce.Nonce{}) || e != api.ErrExhausted {
			t.Errorf("Next: %v, %d; want it exhausted", n, e)
		}
		wantSource(t, "exhausted", s, before, 0)
	}
}

func wantParsed(t *testing.T, b []byte, want nonce.Nonce) {
	t.Helper()
	if n, e := nonce.Parse(b); n != want || e != api.OK {
		t.Errorf("Parse(%v): %v, %d; want %v", b, n, e, want)
	}
}

func wantNoForm(t *testing.T, b []byte) {
	t.Helper()
	if n, e := nonce.Parse(b); n != (nonce.Nonce{}) || e != api.ErrForm {
		t.Errorf("Parse(%v): %v, %d; want error %d", b, n, e, api.ErrForm)
	}
}

// digits are those of n, from 0 on, in six bytes, worked out from the least one on.
func digits(n int) []byte {
	b := make([]byte, 6)
	for i := range b {
		b[5-i] = byte(n % 256)
		n /= 256
	}
	return b
}

// P5.1

func TestNumbersOfThePackage(t *testing.T) {
	if nonce.Len != 12 || nonce.Most != 1099511627776 {
		t.Errorf("Len %d, Most %d", nonce.Len, nonce.Most)
	}
}

func TestMayWithinBounds(t *testing.T) {
	for _, gen := range allowed {
		for _, count := range allowed {
			if n := (nonce.Nonce{Gen: gen, Count: count}); !n.May() {
				t.Errorf("%v may not be", n)
			}
		}
	}
}

// wrong has either number out of its bounds, or both.
func wrong() []nonce.Nonce {
	var list []nonce.Nonce
	for _, out := range outside {
		for _, other := range slices.Concat(allowed, outside) {
			list = append(list, nonce.Nonce{Gen: out, Count: other}, nonce.Nonce{Gen: other, Count: out})
		}
	}
	return list
}

func TestMayNotOutOfBounds(t *testing.T) {
	for _, n := range wrong() {
		if n.May() {
			t.Errorf("%v may be", n)
		}
	}
}

func TestBytesGreatestFirst(t *testing.T) {
	n := nonce.Nonce{Gen: 0x0102030405, Count: 0xF0E0D0C0B}
	if b := n.Bytes(); !bytes.Equal(b, []byte{0, 1, 2, 3, 4, 5, 0, 0x0F, 0x0E, 0x0D, 0x0C, 0x0B}) {
		t.Errorf("%v", b)
	}
	n = nonce.Nonce{Gen: nonce.Most, Count: 7}
	if b := n.Bytes(); !bytes.Equal(b, []byte{1, 0, 0, 0, 0, 0, 0, 0, 0, 0, 0, 7}) {
		t.Errorf("%v", b)
	}
}

func TestBytesAreParsed(t *testing.T) {
	for _, gen := range allowed {
		for _, count := range allowed {
			n := nonce.Nonce{Gen: gen, Count: count}
			want := append(digits(gen), digits(count)...)
			if b := n.Bytes(); !bytes.Equal(b, want) {
				t.Errorf("Bytes of %v: %v; want %v", n, b, want)
			}
			wantParsed(t, want, n)
		}
	}
}

func TestBytesOfWhatMayNotBeAreZeros(t *testing.T) {
	for _, n := range wrong() {
		if b := n.Bytes(); !bytes.Equal(b, make([]byte, nonce.Len)) {
			t.Errorf("Bytes of %v: %v", n, b)
		}
	}
}

func TestParseOfOtherLengths(t *testing.T) {
	for length := range 40 {
		if length != nonce.Len {
			wantNoForm(t, make([]byte, length))
			wantNoForm(t, bytes.Repeat([]byte{255}, length))
		}
	}
	wantNoForm(t, nil)
	wantNoForm(t, make([]byte, 1<<20))
}

func TestParseOfWhatMayNotBe(t *testing.T) {
	for _, out := range []int{nonce.Most + 1, nonce.Most + 255, 1 << 41, 1 << 47, 1<<48 - 2, 1<<48 - 1} {
		for _, other := range []int{0, 1, nonce.Most, out} {
			wantNoForm(t, append(digits(out), digits(other)...))
			wantNoForm(t, append(digits(other), digits(out)...))
		}
	}
}

func TestLessByGenerationThenCount(t *testing.T) {
	numbers := []int{math.MinInt, -1, 0, 1, 9, nonce.Most, nonce.Most + 1, math.MaxInt}
	var order []nonce.Nonce
	for _, gen := range numbers {
		for _, count := range numbers {
			order = append(order, nonce.Nonce{Gen: gen, Count: count})
		}
	}
	for i, a := range order {
		for j, b := range order {
			if a.Less(b) != (i < j) {
				t.Errorf("%v less than %v: %t", a, b, a.Less(b))
			}
		}
	}
}

// P5.2

func TestExample(t *testing.T) {
	s := nonce.From(2)
	wantNext(t, s, nonce.Nonce{Gen: 2, Count: 0})
	wantNext(t, s, nonce.Nonce{Gen: 2, Count: 1})
}

func TestFromIsAWholeGeneration(t *testing.T) {
	for _, gen := range allowed[1:] {
		s := nonce.From(gen)
		if s == nil {
			t.Fatalf("From(%d): nil", gen)
		}
		wantSource(t, "new", s, nonce.Nonce{Gen: gen}, nonce.Most)
		wantNext(t, s, nonce.Nonce{Gen: gen})
		wantSource(t, "behind one", s, nonce.Nonce{Gen: gen, Count: 1}, nonce.Most-1)
	}
	for _, gen := range append(outside, 0) {
		if nonce.From(gen) != nil {
			t.Errorf("From(%d): a source", gen)
		}
	}
}

func TestAtWithinBounds(t *testing.T) {
	for _, gen := range allowed[1:] {
		for i, count := range allowed {
			for _, most := range allowed[i:] {
				s := made(t, gen, count, most)
				wantSource(t, "new", s, nonce.Nonce{Gen: gen, Count: count}, most-count)
			}
		}
	}
}

func wantNoSource(t *testing.T, gen, count, most int) {
	t.Helper()
	if s := nonce.At(gen, count, most); s != nil {
		t.Errorf("At(%d, %d, %d): %v", gen, count, most, s.Nonce)
	}
}

func TestAtOutOfBounds(t *testing.T) {
	for _, gen := range append(outside, 0) {
		wantNoSource(t, gen, 0, nonce.Most)
		wantNoSource(t, gen, 0, 0)
		wantNoSource(t, gen, gen, gen)
	}
	for _, out := range outside {
		wantNoSource(t, 1, out, nonce.Most)
		wantNoSource(t, 1, out, out)
		wantNoSource(t, 1, 0, out)
		wantNoSource(t, 1, nonce.Most, out)
		wantNoSource(t, nonce.Most, out, math.MaxInt)
	}
}

func TestAtOfMoreThanMost(t *testing.T) {
	for i, count := range allowed {
		for _, most := range allowed[:i] {
			wantNoSource(t, 1, count, most)
		}
	}
}

func TestNextCountsUpToMost(t *testing.T) {
	s := made(t, 7, 3, 6)
	for count := 3; count < 6; count++ {
		next := nonce.Nonce{Gen: 7, Count: count}
		wantSource(t, "ahead", s, next, 6-count)
		wantNext(t, s, next)
	}
	wantSource(t, "at the end", s, nonce.Nonce{Gen: 7, Count: 6}, 0)
	wantExhausted(t, s)
}

func TestNextAtTheGreatest(t *testing.T) {
	s := made(t, nonce.Most, nonce.Most-1, nonce.Most)
	wantNext(t, s, nonce.Nonce{Gen: nonce.Most, Count: nonce.Most - 1})
	wantExhausted(t, s)
	if !s.May() {
		t.Errorf("%v may not be", s.Nonce)
	}
}

func TestNextOfNone(t *testing.T) {
	for _, count := range []int{0, 1, 5, nonce.Most} {
		wantExhausted(t, made(t, 1, count, count))
	}
}

func TestNonceIsHadByPromotion(t *testing.T) {
	s := made(t, 2, 258, 300)
	if !s.May() || !bytes.Equal(s.Bytes(), []byte{0, 0, 0, 0, 0, 2, 0, 0, 0, 0, 1, 2}) {
		t.Errorf("%v: %t, %v", s.Nonce, s.May(), s.Bytes())
	}
	n, _ := s.Next()
	if !n.Less(s.Nonce) || s.Less(n) || s.Less(s.Nonce) {
		t.Errorf("%v and %v", n, s.Nonce)
	}
	if !bytes.Equal(s.Bytes(), []byte{0, 0, 0, 0, 0, 2, 0, 0, 0, 0, 1, 3}) {
		t.Errorf("behind one: %v", s.Bytes())
	}
}

func TestSourcesAreApart(t *testing.T) {
	a, b := made(t, 4, 0, 2), made(t, 4, 0, 2)
	a.Next()
	a.Next()
	wantExhausted(t, a)
	wantSource(t, "the other", b, nonce.Nonce{Gen: 4}, 2)
	wantNext(t, b, nonce.Nonce{Gen: 4})
}

// P5.3

// scribble writes over a list, its spare room too.
func scribble(list []byte) {
	whole := list[:cap(list)]
	for i := range whole {
		whole[i] = 99
	}
	_ = append(list, 98, 97, 96)
}

func TestBytesAreNewMemory(t *testing.T) {
	s := made(t, 3, 5, 9)
	want := []byte{0, 0, 0, 0, 0, 3, 0, 0, 0, 0, 0, 5}
	first, second := s.Bytes(), s.Bytes()
	scribble(first)
	if !bytes.Equal(second, want) || !bytes.Equal(s.Bytes(), want) {
		t.Errorf("the one shows in the other: %v, %v", second, s.Bytes())
	}
	s.Next()
	if !bytes.Equal(second, want) {
		t.Errorf("the next one shows: %v", second)
	}
	never := nonce.Nonce{Gen: -1}
	scribble(never.Bytes())
	if b := never.Bytes(); !bytes.Equal(b, make([]byte, nonce.Len)) {
		t.Errorf("the zeros of another answer were written: %v", b)
	}
}

func TestWhatIsParsedIsNeitherChangedNorKept(t *testing.T) {
	memory := []byte{0, 0, 0, 0, 0, 3, 0, 0, 0, 0, 0, 5, 40, 41}
	want := slices.Clone(memory)
	n, e := nonce.Parse(memory[:nonce.Len])
	wantNoForm(t, memory)
	wantNoForm(t, memory[:nonce.Len-1])
	if !bytes.Equal(memory, want) {
		t.Errorf("changed: %v", memory)
	}
	clear(memory)
	if n != (nonce.Nonce{Gen: 3, Count: 5}) || e != api.OK {
		t.Errorf("kept: %v, %d", n, e)
	}
}

func TestWhatNextAnswersIsApartFromTheSource(t *testing.T) {
	s := made(t, 3, 5, 9)
	n, _ := s.Next()
	n.Gen, n.Count = 8, 8
	wantSource(t, "behind one", s, nonce.Nonce{Gen: 3, Count: 6}, 3)
}

// P5.4

func TestNoNonceIsToldTwice(t *testing.T) {
	s := made(t, 2, 100, 1100)
	told, last := 0, nonce.Nonce{Gen: 1, Count: nonce.Most}
	for s.Left() > 0 {
		n, e := s.Next()
		if e != api.OK || !last.Less(n) {
			t.Fatalf("%v, %d behind %v", n, e, last)
		}
		told, last = told+1, n
	}
	if told != 1000 {
		t.Errorf("%d were told", told)
	}
	wantExhausted(t, s)
	if above, _ := nonce.From(3).Next(); !last.Less(above) {
		t.Errorf("%v is not below the next generation's", last)
	}
}

func TestBytesAreInOrder(t *testing.T) {
	var last []byte
	for _, gen := range allowed {
		for _, count := range allowed {
			b := nonce.Nonce{Gen: gen, Count: count}.Bytes()
			if bytes.Compare(last, b) >= 0 {
				t.Errorf("%v is not behind %v", b, last)
			}
			last = b
		}
	}
}

package slab_test

import (
	"bytes"
	"math"
	"slices"
	"testing"

	"oubliette/api"
	"oubliette/slab"
)

const maxLength = 1 << 20

// Widths that may not be.
var wrongWidths = []int{0, -1, -8, math.MinInt, 8, 9, 16, 64, math.MaxInt}

func wantSealed(t *testing.T, w *slab.Writer, length int, want ...byte) {
	t.Helper()
	if b, e := w.Sealed(length); e != api.OK || !bytes.Equal(b, want) {
		t.Errorf("Sealed(%d): %v, %d; want %v", length, b, e, want)
	}
}

func wantUnsealed(t *testing.T, w *slab.Writer, length int, want api.Errno) {
	t.Helper()
	if b, e := w.Sealed(length); e != want || len(b) != 0 {
		t.Errorf("Sealed(%d): %d bytes, %d; want error %d", length, len(b), e, want)
	}
}

func wantLen(t *testing.T, w *slab.Writer, want int) {
	t.Helper()
	if got := w.Len(); got != want {
		t.Errorf("Len %d; want %d", got, want)
	}
}

// wantBroken asks all lengths that a broken writer could be asked.
func wantBroken(t *testing.T, w *slab.Writer, n int) {
	t.Helper()
	wantLen(t, w, n)
	for _, length := range []int{-1, 0, n, n + 1, n + 100, maxLength, maxLength + 1} {
		wantUnsealed(t, w, length, api.ErrRange)
	}
}

// limit is 256^width, by plain multiplication.
func limit(width int) int {
	n := 1
	for range width {
		n *= 256
	}
	return n
}

// digits are those of n in so many bytes, worked out from the least one on.
func digits(width, n int) []byte {
	if n == -1 {
		n = limit(width) - 1
	}
	b := make([]byte, width)
	for i := range b {
		b[width-1-i] = byte(n % 256)
		n /= 256
	}
	return b
}

// P4.1

func TestExample(t *testing.T) {
	wantSealed(t, new(slab.Writer).Num(2, 5, -1), 6, 0, 5, 255, 255, 0, 0)
}

func TestZeroWriterIsEmpty(t *testing.T) {
	var w slab.Writer
	wantLen(t, &w, 0)
	wantSealed(t, &w, 0)
	wantSealed(t, &w, 3, 0, 0, 0)
}

func TestNumbersAreWrittenGreatestByteFirst(t *testing.T) {
	wantSealed(t, new(slab.Writer).Num(1, 7), 1, 7)
	wantSealed(t, new(slab.Writer).Num(3, 0x010203), 3, 1, 2, 3)
	wantSealed(t, new(slab.Writer).Num(4, 0x0102), 4, 0, 0, 1, 2)
	wantSealed(t, new(slab.Writer).Num(7, 0x01020304050607), 7, 1, 2, 3, 4, 5, 6, 7)
}

// edges are the numbers of this width that may be, at their ends and at each byte's end.
func edges(width int) []int {
	list := []int{-1, 0, 1, limit(width) - 2}
	for narrow := 1; narrow < width; narrow++ {
		list = append(list, limit(narrow)-2, limit(narrow)-1, limit(narrow), limit(narrow)+1)
	}
	return list
}

func TestNumbersOfEachWidth(t *testing.T) {
	for width := 1; width <= 7; width++ {
		all := new(slab.Writer)
		var want []byte
		for _, n := range edges(width) {
			wantSealed(t, new(slab.Writer).Num(width, n), width, digits(width, n)...)
			all.Num(width, n)
			want = append(want, digits(width, n)...)
		}
		wantLen(t, all, len(want))
		wantSealed(t, all, len(want), want...)
		wantSealed(t, new(slab.Writer).Num(width, edges(width)...), len(want), want...)
	}
}

func TestNumbersThatMayNotBeBreak(t *testing.T) {
	for width := 1; width <= 7; width++ {
		for _, n := range []int{-2, -3, -255, -256, math.MinInt, limit(width) - 1, limit(width), limit(width) + 1, math.MaxInt} {
			wantBroken(t, new(slab.Writer).Num(width, n), 0)
			wantBroken(t, new(slab.Writer).Num(width, 1, n, 1), width)
		}
	}
}

func TestWidthsThatMayNotBeBreak(t *testing.T) {
	for _, width := range wrongWidths {
		wantBroken(t, new(slab.Writer).Num(width), 0)
		wantBroken(t, new(slab.Writer).Num(width, 0), 0)
		wantBroken(t, new(slab.Writer).Num(width, -1, -2), 0)
		wantBroken(t, new(slab.Writer).Num(1, 1, 2).Num(width, 3), 2)
	}
}

func TestNothingIsWrittenBehindWhatBroke(t *testing.T) {
	w := new(slab.Writer).Num(2, 1).Raw([]byte{9}).Num(1, 3, 255, 4)
	wantBroken(t, w, 4)
	w.Num(1, 5).Raw([]byte{6, 7}, []byte{8}).Num(0).Num(7, -2).Raw().Num(3)
	wantBroken(t, w, 4)
}

func TestRawWritesAllParts(t *testing.T) {
	wantSealed(t, new(slab.Writer).Raw(), 0)
	wantSealed(t, new(slab.Writer).Raw(nil, []byte{}), 1, 0)
	w := new(slab.Writer).Raw([]byte{1}, nil, []byte{0, 255}, []byte{}, []byte{3})
	wantLen(t, w, 4)
	wantSealed(t, w, 4, 1, 0, 255, 3)
}

func TestNoNumbersWriteNothing(t *testing.T) {
	for width := 1; width <= 7; width++ {
		w := new(slab.Writer).Num(width).Num(width, []int{}...)
		wantLen(t, w, 0)
		wantSealed(t, w, 1, 0)
	}
}

func TestChainsAnswerTheWriter(t *testing.T) {
	w := new(slab.Writer)
	if w.Num(1) != w || w.Num(1, 2) != w || w.Raw() != w || w.Raw([]byte{3}) != w {
		t.Error("another writer")
	}
	wantSealed(t, w, 2, 2, 3)
	if w.Num(0) != w || w.Num(1, 2) != w || w.Raw([]byte{3}) != w {
		t.Error("another writer, broken")
	}
}

func TestSealedLengths(t *testing.T) {
	w := new(slab.Writer).Raw([]byte{1, 2, 3})
	for _, length := range []int{-1, -3, math.MinInt, maxLength + 1, math.MaxInt} {
		wantUnsealed(t, w, length, api.ErrRange)
		wantUnsealed(t, new(slab.Writer), length, api.ErrRange)
	}
	for length := range 3 {
		wantUnsealed(t, w, length, api.ErrFull)
	}
	wantSealed(t, w, 3, 1, 2, 3)
	wantSealed(t, w, 5, 1, 2, 3, 0, 0)
	wantSealed(t, w, maxLength, append([]byte{1, 2, 3}, make([]byte, maxLength-3)...)...)
}

func TestSealedOfTheMostBytes(t *testing.T) {
	most := bytes.Repeat([]byte{7}, maxLength)
	w := new(slab.Writer).Raw(most)
	wantSealed(t, w, maxLength, most...)
	wantUnsealed(t, w, maxLength-1, api.ErrFull)
	w.Num(1, 7)
	wantLen(t, w, maxLength+1)
	wantUnsealed(t, w, maxLength, api.ErrFull)
	wantUnsealed(t, w, maxLength+1, api.ErrRange)
	w.Num(1, -2)
	wantUnsealed(t, w, maxLength, api.ErrRange)
}

func TestSealedLeavesTheWriterAsItWas(t *testing.T) {
	w := new(slab.Writer).Num(1, 1)
	wantSealed(t, w, 3, 1, 0, 0)
	wantUnsealed(t, w, 0, api.ErrFull)
	wantUnsealed(t, w, -1, api.ErrRange)
	wantLen(t, w, 1)
	wantSealed(t, w.Num(1, 2), 3, 1, 2, 0)
	wantLen(t, w, 2)
}

// P4.2

func wantErr(t *testing.T, r *slab.Reader, want api.Errno) {
	t.Helper()
	if got := r.Err(); got != want {
		t.Errorf("Err %d; want %d", got, want)
	}
}

func wantEnd(t *testing.T, r *slab.Reader, want api.Errno) {
	t.Helper()
	if got := r.End(); got != want {
		t.Errorf("End %d; want %d", got, want)
	}
}

func wantNum(t *testing.T, r *slab.Reader, width, want int) {
	t.Helper()
	if got := r.Num(width); got != want {
		t.Errorf("Num(%d): %d; want %d", width, got, want)
	}
	wantErr(t, r, api.OK)
}

func wantRaw(t *testing.T, r *slab.Reader, n int, want ...byte) {
	t.Helper()
	if got := r.Raw(n); !bytes.Equal(got, want) {
		t.Errorf("Raw(%d): %v; want %v", n, got, want)
	}
	wantErr(t, r, api.OK)
}

// wantFailed asks whatever could tell that the failure, or its cause, is not for good.
func wantFailed(t *testing.T, r *slab.Reader, want api.Errno) {
	t.Helper()
	for _, n := range []int{1, 0, -1, 7, 8, math.MaxInt, math.MinInt} {
		if got := r.Num(n); got != 0 {
			t.Errorf("failed, and Num(%d): %d", n, got)
		}
		wantErr(t, r, want)
		if got := r.Raw(n); len(got) != 0 {
			t.Errorf("failed, and Raw(%d): %v", n, got)
		}
		wantErr(t, r, want)
		wantEnd(t, r, want)
	}
}

func TestReadFromTheFront(t *testing.T) {
	r := slab.NewReader([]byte{1, 2, 3, 4, 5, 6, 255, 255, 255, 254, 9})
	wantErr(t, r, api.OK)
	wantNum(t, r, 1, 1)
	wantNum(t, r, 2, 0x0203)
	wantRaw(t, r, 0)
	wantRaw(t, r, 3, 4, 5, 6)
	wantNum(t, r, 2, -1)
	wantNum(t, r, 2, 0xFFFE)
	wantRaw(t, r, 1, 9)
	wantRaw(t, r, 0)
	wantEnd(t, r, api.OK)
}

func TestNumbersOfEachWidthAreRead(t *testing.T) {
	for width := 1; width <= 7; width++ {
		for _, n := range edges(width) {
			r := slab.NewReader(append(digits(width, n), 77))
			wantNum(t, r, width, n)
			wantRaw(t, r, 1, 77)
		}
	}
}

func TestReaderFailsWhereFewerAreLeft(t *testing.T) {
	for width := 1; width <= 7; width++ {
		short := bytes.Repeat([]byte{255}, width-1)
		for _, fail := range []func(r *slab.Reader) bool{
			func(r *slab.Reader) bool { return r.Num(width) == 0 },
			func(r *slab.Reader) bool { return len(r.Raw(width)) == 0 },
			func(r *slab.Reader) bool { return len(r.Raw(math.MaxInt)) == 0 },
		} {
			r := slab.NewReader(short)
			if !fail(r) {
				t.Errorf("something of %d bytes", width-1)
			}
			wantFailed(t, r, api.ErrShort)
			r = slab.NewReader(append([]byte{3}, short...))
			wantNum(t, r, 1, 3)
			fail(r)
			wantFailed(t, r, api.ErrShort)
		}
	}
}

func TestReaderFailsAtWidthsThatMayNotBe(t *testing.T) {
	for _, width := range wrongWidths {
		for _, b := range [][]byte{nil, {0}, bytes.Repeat([]byte{5}, 100)} {
			r := slab.NewReader(b)
			if n := r.Num(width); n != 0 {
				t.Errorf("Num(%d): %d", width, n)
			}
			wantFailed(t, r, api.ErrRange)
		}
	}
}

func TestReaderFailsAtCountsBelowZero(t *testing.T) {
	for _, n := range []int{-1, -2, math.MinInt} {
		for _, b := range [][]byte{nil, {0}, {1, 2, 3}} {
			r := slab.NewReader(b)
			if got := r.Raw(n); len(got) != 0 {
				t.Errorf("Raw(%d): %v", n, got)
			}
			wantFailed(t, r, api.ErrRange)
		}
	}
}

func TestRawOfMoreThanANumber(t *testing.T) {
	long := bytes.Repeat([]byte{1, 2, 3}, 1<<19)
	r := slab.NewReader(long)
	wantRaw(t, r, len(long), long...)
	wantEnd(t, r, api.OK)
}

func TestEnd(t *testing.T) {
	for _, c := range []struct {
		b    []byte
		want api.Errno
	}{
		{nil, api.OK}, {[]byte{}, api.OK}, {[]byte{0}, api.OK}, {make([]byte, 100), api.OK},
		{[]byte{1}, api.ErrForm}, {[]byte{255, 0, 0}, api.ErrForm}, {[]byte{0, 128, 0}, api.ErrForm}, {[]byte{0, 0, 1}, api.ErrForm},
	} {
		wantEnd(t, slab.NewReader(c.b), c.want)
		r := slab.NewReader(append([]byte{9}, c.b...))
		wantEnd(t, r, api.ErrForm)
		wantNum(t, r, 1, 9)
		wantEnd(t, r, c.want)
	}
}

func TestEndReadsNothingAndFailsNothing(t *testing.T) {
	r := slab.NewReader([]byte{0, 1, 0})
	wantEnd(t, r, api.ErrForm)
	wantErr(t, r, api.OK)
	wantNum(t, r, 2, 1)
	wantEnd(t, r, api.OK)
	wantEnd(t, r, api.OK)
	wantNum(t, r, 1, 0)
	wantEnd(t, r, api.OK)
	r.Num(1)
	wantFailed(t, r, api.ErrShort)
}

// P4.3

func TestCells(t *testing.T) {
	for length := 1; length <= 40; length++ {
		for size := 1; size <= 45; size++ {
			want := 0
			for want*size < length {
				want++
			}
			if got := slab.Cells(length, size); got != want {
				t.Errorf("Cells(%d, %d): %d; want %d", length, size, got, want)
			}
		}
	}
}

func TestCellsAtTheEdges(t *testing.T) {
	for _, c := range []struct{ length, size, want int }{
		{0, 1, 0}, {0, 0, 0}, {-1, 1, 0}, {-5, -1, 0}, {-4, 2, 0}, {math.MinInt, 1, 0}, {math.MinInt, -1, 0}, {math.MinInt, math.MinInt, 0},
		{1, 0, 0}, {5, -1, 0}, {5, math.MinInt, 0}, {math.MaxInt, 0, 0}, {math.MaxInt, -1, 0}, {0, math.MaxInt, 0},
		{math.MaxInt, 1, math.MaxInt}, {math.MaxInt, 2, 1 << 62}, {math.MaxInt, math.MaxInt, 1}, {math.MaxInt, math.MaxInt - 1, 2},
		{math.MaxInt - 1, math.MaxInt, 1}, {1, math.MaxInt, 1}, {maxLength + 1, maxLength, 2}, {5, maxLength + 1, 1},
	} {
		if got := slab.Cells(c.length, c.size); got != c.want {
			t.Errorf("Cells(%d, %d): %d; want %d", c.length, c.size, got, c.want)
		}
	}
}

// counted has the numbers from 1 on, so that no byte of it is 0.
func counted(n int) []byte {
	b := make([]byte, n)
	for i := range b {
		b[i] = byte(i%255 + 1)
	}
	return b
}

func wantCut(t *testing.T, b []byte, size int) {
	t.Helper()
	pieces := slab.Cut(b, size)
	if len(pieces) != slab.Cells(len(b), size) {
		t.Errorf("Cut of %d by %d: %d pieces", len(b), size, len(pieces))
	}
	for i, piece := range pieces {
		if len(piece) != size {
			t.Errorf("Cut of %d by %d: piece %d has %d bytes", len(b), size, i, len(piece))
		}
	}
	joined := bytes.Join(pieces, nil)
	filling := make([]byte, len(pieces)*size-len(b))
	if !bytes.Equal(joined, append(slices.Clone(b), filling...)) {
		t.Errorf("Cut of %d by %d: other bytes", len(b), size)
	}
}

func TestCut(t *testing.T) {
	for n := range 20 {
		for size := 1; size <= 25; size++ {
			wantCut(t, counted(n), size)
		}
	}
	wantCut(t, nil, 1)
	wantCut(t, counted(300), 7)
	wantCut(t, counted(1), maxLength)
	wantCut(t, counted(maxLength), maxLength)
	wantCut(t, counted(maxLength+1), maxLength)
	wantCut(t, counted(maxLength), 1)
}

func TestCutOfSizesThatMayNotBe(t *testing.T) {
	for _, size := range []int{0, -1, -2, math.MinInt, maxLength + 1, 2 * maxLength, math.MaxInt} {
		for _, b := range [][]byte{nil, {1}, counted(10)} {
			if pieces := slab.Cut(b, size); len(pieces) != 0 {
				t.Errorf("Cut of %d by %d: %d pieces", len(b), size, len(pieces))
			}
		}
	}
}

// P4.4

// scribble writes over a list, its spare room too.
func scribble(list []byte) {
	whole := list[:cap(list)]
	for i := range whole {
		whole[i] = 99
	}
	_ = append(list, 98, 97, 96)
}

func TestWhatIsWrittenIsNeitherChangedNorKept(t *testing.T) {
	nums, memory := []int{5, -1, 300}, []byte{1, 2, 40, 41}
	parts := [][]byte{memory[:1], memory[1:2]}
	w := new(slab.Writer).Raw(parts...).Num(1, nums[:2]...).Raw([]byte{3})
	b, _ := w.Sealed(8)
	scribble(b)
	if !slices.Equal(nums, []int{5, -1, 300}) || !bytes.Equal(memory, []byte{1, 2, 40, 41}) {
		t.Errorf("changed: %v, %v", nums, memory)
	}
	if len(parts) != 2 || !bytes.Equal(parts[0], []byte{1}) || !bytes.Equal(parts[1], []byte{2}) {
		t.Errorf("changed: %v", parts)
	}
	clear(memory)
	clear(nums)
	clear(parts)
	wantSealed(t, w, 5, 1, 2, 5, 255, 3)
}

func TestTheFirstPartIsNotWrittenBehind(t *testing.T) {
	memory := []byte{1, 2, 40, 41}
	new(slab.Writer).Raw(memory[:2]).Num(2, 7)
	if !bytes.Equal(memory, []byte{1, 2, 40, 41}) {
		t.Errorf("written behind its length: %v", memory)
	}
}

func TestSealedIsNewMemory(t *testing.T) {
	w := new(slab.Writer).Raw(counted(5))
	first, _ := w.Sealed(5)
	second, _ := w.Sealed(5)
	scribble(first)
	if !bytes.Equal(second, counted(5)) {
		t.Errorf("the one shows in the other: %v", second)
	}
	w.Num(1, 6)
	scribble(second)
	wantSealed(t, w, 6, counted(6)...)
	third, _ := w.Sealed(6)
	w.Num(1, 7)
	if !bytes.Equal(third, counted(6)) {
		t.Errorf("what was written later shows: %v", third)
	}
}

func TestWhatIsReadIsNeitherChangedNorKept(t *testing.T) {
	memory := []byte{1, 2, 3, 4, 5, 40, 41}
	r := slab.NewReader(memory[:5])
	scribble(r.Raw(2))
	if !bytes.Equal(memory, []byte{1, 2, 3, 4, 5, 40, 41}) {
		t.Errorf("changed: %v", memory)
	}
	clear(memory)
	wantNum(t, r, 1, 3)
	wantRaw(t, r, 2, 4, 5)
	wantEnd(t, r, api.OK)
	r.Num(1)
	wantFailed(t, r, api.ErrShort)
}

func TestWhatRawAnswersIsNewMemory(t *testing.T) {
	r := slab.NewReader(counted(6))
	none, first, second := r.Raw(0), r.Raw(2), r.Raw(2)
	scribble(none)
	scribble(first)
	if !bytes.Equal(second, []byte{3, 4}) {
		t.Errorf("the one shows in the other: %v", second)
	}
	scribble(second)
	wantRaw(t, r, 2, 5, 6)
}

func TestWhatCutAnswersIsNewMemory(t *testing.T) {
	memory := counted(8)
	pieces := slab.Cut(memory[:5], 2)
	again := slab.Cut(memory[:5], 2)
	if len(pieces) != 3 || len(again) != 3 {
		t.Fatalf("%d and %d pieces", len(pieces), len(again))
	}
	scribble(pieces[1])
	if !bytes.Equal(pieces[0], []byte{1, 2}) || !bytes.Equal(pieces[2], []byte{5, 0}) {
		t.Errorf("one piece shows in another: %v", pieces)
	}
	scribble(pieces[0])
	scribble(pieces[2])
	clear(pieces[:cap(pieces)])
	if !bytes.Equal(memory, counted(8)) {
		t.Errorf("changed: %v", memory)
	}
	clear(memory)
	if !bytes.Equal(bytes.Join(again, nil), []byte{1, 2, 3, 4, 5, 0}) {
		t.Errorf("kept: %v", again)
	}
}

func TestWritersAndReadersAreApart(t *testing.T) {
	a, b := new(slab.Writer).Num(1, 1), new(slab.Writer).Num(1, 2)
	a.Num(0)
	wantBroken(t, a, 1)
	wantSealed(t, b, 1, 2)
	text := []byte{1, 2}
	x, y := slab.NewReader(text), slab.NewReader(text)
	x.Raw(3)
	wantFailed(t, x, api.ErrShort)
	wantNum(t, y, 2, 0x0102)
}

// P4.5

func TestWhatWasWrittenIsRead(t *testing.T) {
	w := new(slab.Writer)
	for width := 1; width <= 7; width++ {
		w.Num(width, edges(width)...).Raw(counted(width), nil)
	}
	for _, more := range []int{0, 1, 50} {
		b, e := w.Sealed(w.Len() + more)
		if e != api.OK {
			t.Fatalf("Sealed: %d", e)
		}
		r := slab.NewReader(b)
		for width := 1; width <= 7; width++ {
			for _, n := range edges(width) {
				wantNum(t, r, width, n)
			}
			wantRaw(t, r, width, counted(width)...)
		}
		wantEnd(t, r, api.OK)
		wantRaw(t, r, more, make([]byte, more)...)
	}
}

func TestWhatWasCutIsReadWhenJoined(t *testing.T) {
	w := new(slab.Writer).Num(3, 1, -1, 70000).Raw(counted(4))
	b, _ := w.Sealed(w.Len())
	r := slab.NewReader(bytes.Join(slab.Cut(b, 5), nil))
	wantNum(t, r, 3, 1)
	wantNum(t, r, 3, -1)
	wantNum(t, r, 3, 70000)
	wantRaw(t, r, 4, counted(4)...)
	wantEnd(t, r, api.OK)
}
